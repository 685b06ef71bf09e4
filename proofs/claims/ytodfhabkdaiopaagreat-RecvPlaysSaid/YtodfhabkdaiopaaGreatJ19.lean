/- Joined: Left, Far, Conv, Known. -/
import Derived.Test.YtodfhabkdaiopaaGreatJ11
import Derived.Test.YtodfhabkdaiopaaGreatJ08
import Derived.Test.YtodfhabkdaiopaaGreatJ01
import Derived.Deep.RegionHeld3
import Derived.Deep.RegionLaw
import Derived.Deep.DrawnRows
namespace Go.Proofs.YtodfhabkdaiopaaGreat
set_option linter.unusedVariables false
set_option linter.unusedSimpArgs false
set_option maxRecDepth 100000
set_option maxHeartbeats 8000000
open Go.RowKit
theorem y19h {p:Prop} (h:p):Go.RowKit.Hid p:=Lib.hid h
def zcr (s m:Int):Int:=if s≤m then m - s else -1
theorem zt4 {s r:Int} (h:0≤r) (h1:zcr s r < 0):r < s:=by
 unfold zcr at h1;split at h1 <;> omega
theorem zt5 {s r:Int} (h1:0≤zcr s r):s≤r:=by
 unfold zcr at h1;split at h1 <;> omega
def zya (l:List Pr) (len:Nat) (m:Int) (w0:World) (most i:Value) (wr:World):Prop :=
 ∃ (k:Nat) (r:Int),k≤len∧i=.int .i64 k∧most=.int .i64 r∧0≤r∧r≤60∧Hid (r=m - (1 + Pr.sizes (l.take k):Nat))∧Below w0.heap.size w0 wr
theorem zr0 (p:Pr):∀ (v:Value) (m:Int) (w:World),LT w p v→-1≤m→m≤60 →
   Calls Tryz.prog 53 #[.agg #[.int .i64 p.op,.string p.text,.int .i64 p.n,.float .f64 p.x,.float .f64 p.y,v],.int .i64 m] w fun e w'=>e=.returned (.int .i64 (zcr p.size m))∧Below w.heap.size w w':=by
 induction p using Pr.ind with
 | h op t n x y kids ih =>
   intro v m w hL h1 h2
   obtain ⟨oa,cap,b,o,V,rfl,ht,hl,hc,hn,hcell,hrec⟩:=zba hL
   simp only [Pr.kids_node,Pr.text_node,Pr.op_node,Pr.n_node,Pr.x_node,Pr.y_node,Pr.size] at *
   by_cases h0:m≤0
   · have e:zcr (1 + Pr.sizes kids:Nat) m=-1:=by unfold zcr;rw [if_neg (by omega)]
     rw [e]
     clear e
     go_enter Tryz.func53,Tryz.ntmps53
     go_wp2_with fail
     go_ret
     exact ⟨rfl,(Below.refl _ _).alloc (Nat.le_refl _) _⟩
   · unfold maxLen at hc
     have E:=y19h (rfl:zcr (1 + Pr.sizes kids:Nat) m=zcr (1 + Pr.sizes kids:Nat) m)
     have HL:=y19h hL
     have HC:=y19h hcell
     have HR:=y19h hrec
     have HN:=y19h hn
     have HI:=y19h ih
     clear hL hcell hrec hn ih
     generalize hlen:kids.length=len at *
     have HLEN:=y19h hlen
     clear hlen
     go_enter Tryz.func53,Tryz.ntmps53
     go_wp2_with fail
     go_loopw [1,5] (fun most i wr=>zya kids len m (w.alloc (.cells #[.int .i64 op,.string t,.int .i64 n,.float .f64 x,.float .f64 y,.slice oa len cap] 25)) most i wr) (fun _ i _=>len - (intOf i).toNat)
     case atStart=>exact ⟨0,m - 1,Nat.zero_le _,rfl,rfl,by omega,by omega,by simp [Hid,Pr.sizes],Below.refl _ _⟩
     case round =>
       obtain ⟨k,r,hk,rfl,rfl,hr0,hr1,HRr,hb⟩:=hrel
       have g:=(Has.new w #[.int .i64 op,.string t,.int .i64 n,.float .f64 x,.float .f64 y,.slice oa len cap] 25).below hb (by simp)
       by_cases hlt:k < len
       · obtain ⟨q,hq⟩:∃ q,kids[k]?=some q:=⟨_,List.getElem?_eq_getElem (by rw [HLEN.out];exact hlt)⟩
         obtain ⟨rfl,hS⟩:=HN.out (by omega)
         have hbw:Below w.heap.size w wr:=((Below.refl _ _).alloc (Nat.le_refl _) _).trans (hb.mono (by simp))
         obtain ⟨c0,c1,c2,c3,c4,c5⟩:=zpg (w:=wr) (fun j u hu=>(hbw.cell (p:=⟨b,o + k * 6 + j,none⟩) hS).trans (HC.out k q hq j u hu))
         have CC:=HI.out q (List.mem_of_getElem? hq) (V k) r wr ((HR.out k q hq).later hbw (Nat.le_refl _)) (by omega) (by omega)
         have HB:=y19h hb
         have HQ:=y19h hq
         clear hb hbw hq
         have l:=g.cell
         have z:=g.lt
         clear g
         go_wp2_with (go_at_call 53;refine CC.mono ?_;rintro e w' ⟨rfl,hb'⟩)
         · have hneg:zcr q.size r < 0:=by assumption
           have hbig:r < (q.size:Int):=zt4 hr0 hneg
           have h3:=Pr.sizes_take HQ.out
           have h4:=Pr.sizes_take_le kids (k + 1)
           have h5:=HRr.out
           go_ret
           exact ⟨zcq (by unfold zcr;rw [if_neg (by omega)]),zai (HB.out.trans (hb'.mono HB.out.size))⟩
         · have hneg:0≤zcr q.size r:=by assumption
           have hbig:(q.size:Int)≤r:=zt5 hneg
           have h3:=Pr.sizes_take HQ.out
           have h5:=HRr.out
           have h6:=Pr.size_pos q
           have h7:zcr q.size r=r - q.size:=if_pos hbig
           go_roundw
           case rel=>exact ⟨k + 1,r - q.size,by omega,by go_num,by rw [h7],by omega,by omega,by unfold Hid;rw [h3];omega,HB.out.trans (hb'.mono HB.out.size)⟩
           case measure=>simp [intOf];omega
       · have HB:=y19h hb
         clear hb
         have l:=g.cell
         have z:=g.lt
         clear g
         have e:k=len:=by omega
         have h5:=HRr.out
         rw [Pr.take_all kids (by rw [HLEN.out];omega)] at h5
         have H5:=y19h h5
         clear h5 e
         go_wp2_with fail
         go_ret
         have h5:=H5.out
         exact ⟨zcq (by unfold zcr;rw [if_pos (by omega)];exact h5),zai HB.out⟩
theorem zji (p:Pr) (v:Value) (w:World) (hL:LT w p v) :
   Calls Tryz.prog 10 #[.agg #[.int .i64 p.op,.string p.text,.int .i64 p.n,.float .f64 p.x,.float .f64 p.y,v]] w fun e w'=>e=.returned (.int .i64 (if p.size≤60 then 1 else 0))∧Below w.heap.size w w':=by
 have H:=fun w' h=>y19h (zr0 p v 60 w' h (by omega) (by omega))
 have L1:=fun o=>y19h (hL.atAlloc o)
 clear hL
 by_cases h:p.size≤60
 · have h1:zcr p.size 60=60 - p.size:=if_pos (by omega)
   have h2:¬ (zcr p.size 60 < 0):=by omega
   rw [if_pos h]
   clear h1
   go_enter Tryz.func10,Tryz.ntmps10
   go_wp2_with (go_at_call 53;refine (H _ (L1 _).out).out.mono ?_;rintro e w' ⟨rfl,hb⟩)
   go_ret
   exact ⟨rfl,zai hb⟩
 · have h1:zcr p.size 60=-1:=if_neg (by omega)
   have h2:zcr p.size 60 < 0:=by omega
   rw [if_neg h]
   clear h1
   go_enter Tryz.func10,Tryz.ntmps10
   go_wp2_with (go_at_call 53;refine (H _ (L1 _).out).out.mono ?_;rintro e w' ⟨rfl,hb⟩)
   go_ret
   exact ⟨rfl,zai hb⟩
theorem ztg (a b c d:Nat) (w:World) :
   Calls Tryz.prog 229 #[.complex .f64 a b,.complex .f64 c d] w fun e w'=>e=.returned (.int .i64 (farV a b c d))∧w=w':=by
 unfold farV
 cases h1:mayB a b
 · have H:=fun x y=>y19h (zdj x y w)
   go_enter Tryz.func229,Tryz.ntmps229
   go_wp2_with (go_at_call 190;refine ((H _ _).out).mono ?_;rw [h1];rintro e w' ⟨rfl,rfl⟩)
   go_ret
   exact ⟨rfl,rfl⟩
 · cases h2:mayB c d
   · have H1:=y19h (zdj a b w)
     have H2:=y19h (zdj c d w)
     go_enter Tryz.func229,Tryz.ntmps229
     go_wp2_with fail
     refine ((H1).out).mono ?_
     rw [h1];rintro e w' ⟨rfl,rfl⟩
     go_wp2_with fail
     refine ((H2).out).mono ?_
     rw [h2];rintro e w' ⟨rfl,rfl⟩
     go_wp2
     go_ret
     exact ⟨rfl,rfl⟩
   · have H1:=y19h (zdj a b w)
     have H2:=y19h (zdj c d w)
     obtain ⟨ia,ib,ba,bb⟩:=zec h1
     obtain ⟨ic,id,bc,bd⟩:=zec h2
     obtain ⟨re,hre,ire⟩:=Fl.diff_int ia ic (by omega)
     obtain ⟨im,him,iim⟩:=Fl.diff_int ib id (by omega)
     have hs:cSumBits .sub .f64 a b c d=some (re,im):=by
       have e1:floatBits .sub .f64 a c=some re:=hre
       have e2:floatBits .sub .f64 b d=some im:=him
       simp [cSumBits,e1,e2]
     have k1:=run_complex_sum (P:=Tryz.prog) w .sub (.inr rfl) 29 .f64 a b c d re im hs
     have k2:=run_convert_float_int (P:=Tryz.prog) w 22 3 .f64 .i64 re _ (by kernel_rfl) (by kernel_rfl) (Fl.toIntVal_int ire (by omega))
     have k3:=run_convert_float_int (P:=Tryz.prog) w 22 3 .f64 .i64 im _ (by kernel_rfl) (by kernel_rfl) (Fl.toIntVal_int iim (by omega))
     simp only [Bool.and_self,if_true]
     generalize hp:Fl.iv a - Fl.iv c=p at *
     generalize hq:Fl.iv b - Fl.iv d=q at *
     have hp1:-2000≤p:=by omega
     have hp2:p≤2000:=by omega
     have hq1:-2000≤q:=by omega
     have hq2:q≤2000:=by omega
     obtain ⟨sp1,sp2⟩:=zi1 hp1 hp2
     obtain ⟨sq1,sq2⟩:=zi1 hq1 hq2
     clear hp hq ia ib ba bb ic id bc bd hre him ire iim hs
     have h1':=y19h h1
     have h2':=y19h h2
     clear h1 h2
     go_enter Tryz.func229,Tryz.ntmps229
     go_wp2_with fail
     refine ((H1).out).mono ?_
     rw [h1'.out];rintro e w' ⟨rfl,rfl⟩
     go_wp2_with fail
     refine ((H2).out).mono ?_
     rw [h2'.out];rintro e w' ⟨rfl,rfl⟩
     go_wp2
     go_ret
     exact ⟨rfl,rfl⟩
theorem zr3 (a b c d:Nat) (n:Int) (w:World) :
   Calls Tryz.prog 196 #[.complex .f64 a b,.complex .f64 c d,.int .i64 n] w fun e w'=>e=.returned (.bool (zix a b c d n))∧w=w':=by
 have H:=y19h (ztg a b c d w)
 obtain ⟨h1,h2⟩:=zyn a b c d
 unfold zix
 generalize farV a b c d=f at *
 by_cases h0:f=-1
 · subst h0
   go_enter Tryz.func196,Tryz.ntmps196
   go_wp2_with (go_at_call 229;refine (H.out).mono ?_;rintro e w' ⟨rfl,rfl⟩)
   go_ret
   exact ⟨rfl,rfl⟩
 · have h3:(f != -1)=true:=by simp [h0]
   have h4:decide (0≤f)=true:=by simp;omega
   rw [h4]
   have h4':0≤f:=by omega
   clear h4 h0
   go_enter Tryz.func196,Tryz.ntmps196
   go_wp2_with (go_at_call 229;refine (H.out).mono ?_;rintro e w' ⟨rfl,rfl⟩)
   go_ret
   exact ⟨by simp,rfl⟩
theorem ztv:(Tryz.prog.info? 32).map (fun i=>(i.zero,i.size,i.bytes))=some (some (.agg #[.int .i64 0,.string ⟨#[]⟩,.int .i64 0,.complex .f64 0 0,.slice none 0 0]),5,72):=by kernel_rfl
def zx6 (p:Pr) (w:World) (e:Ending) (w':World):Prop :=
 ∃ v',e=.returned (.agg #[.int .i64 p.op,.string p.text,.int .i64 p.n,.complex .f64 p.x p.y,v'])∧Lies 5 pc (fun b=>w.heap.size≤b∧b < w'.heap.size) w' p v'∧Below w.heap.size w w'
def Laid (l:List Pr) (k:Nat) (xs:List Value) (V:Nat→Value):Prop:=∀ i p,i < k→l[i]?=some p→∀ j u,(pc p (V i))[j]?=some u→xs[i * 5 + j]?=some u
def zqi (op:Int) (t:ByteArray) (n:Int) (x y:Nat) (kids:List Pr) (len:Nat) (v:Value) (w:World) (i:Value) (wr:World):Prop :=
 ∃ (k:Nat) (sl:Value) (xs:List Value) (V:Nat→Value),k≤len∧i=.int .i64 k ∧
   Own wr w.heap.size #[.int .i64 op,.string t,.int .i64 n,.float .f64 x,.float .f64 y,v] 25 ∧
   Own wr (w.heap.size + 1) #[.int .i64 0,.string ⟨#[]⟩,.int .i64 0,.complex .f64 0 0,.slice none 0 0] 32 ∧
   Own wr (w.heap.size + 1 + 1) #[.int .i64 op,.string t,.int .i64 n,.complex .f64 x y,sl] 32 ∧
   wr.ownsRow (w.heap.size + 3) 32 5 sl k xs∧Laid kids k xs V ∧
   (∀ i p,i < k→kids[i]?=some p→Lies 5 pc (fun b=>w.heap.size + 3≤b∧b < wr.heap.size∧some b ≠ sl.ownBlock) wr p (V i))∧Below w.heap.size w wr
theorem zt2 {l:List Pr} {k:Nat} {xs:List Value} {V:Nat→Value} {q:Pr} {v2:Value} (hx:xs.length=k * 5) (h:Laid l k xs V) (hq:l[k]?=some q):Laid l (k + 1) (xs ++ pc q v2) (fun i=>if i=k then v2 else V i):=by
 intro i p hi hp j u hu
 by_cases e:i=k
 · subst e
   rw [hq] at hp;cases hp
   simp only [if_true] at hu
   rw [List.getElem?_append_right (by omega),hx,show i * 5 + j - i * 5=j by omega]
   exact hu
 · simp only [if_neg e] at hu
   have h1:=h i p (by omega) hp j u hu
   rw [List.getElem?_append_left (List.getElem?_eq_some_iff.1 h1).1]
   exact h1
theorem zs8 {op:Int} {t:ByteArray} {n:Int} {x y:Nat} {kids:List Pr} {len:Nat} {v:Value} {w wr w2 w3:World} {k g cap':Nat} {sl v2:Value} {xs:List Value} {V:Nat→Value} {q:Pr} (hk:k < len) (hq:kids[k]?=some q)
   (o1:Own wr w.heap.size #[.int .i64 op,.string t,.int .i64 n,.float .f64 x,.float .f64 y,v] 25)
   (o2:Own wr (w.heap.size + 1) #[.int .i64 0,.string ⟨#[]⟩,.int .i64 0,.complex .f64 0 0,.slice none 0 0] 32)
   (o3:Own wr (w.heap.size + 1 + 1) #[.int .i64 op,.string t,.int .i64 n,.complex .f64 x y,sl] 32)
   (hown:wr.ownsRow (w.heap.size + 3) 32 5 sl k xs) (hlaid:Laid kids k xs V)
   (hlies:∀ i p,i < k→kids[i]?=some p→Lies 5 pc (fun b=>w.heap.size + 3≤b∧b < wr.heap.size∧some b ≠ sl.ownBlock) wr p (V i)) (hb:Below w.heap.size w wr)
   (hl2:Lies 5 pc (fun b=>wr.drew.heap.size≤b∧b < w2.heap.size) w2 q v2) (hb2:Below wr.drew.heap.size wr.drew w2)
   (hown3:w3.ownsRow (w.heap.size + 3) 32 5 (.slice (some ⟨g,0,none⟩) (k + 1) cap') (k + 1) (xs ++ pc q v2))
   (hgrow:(w2.alloc (.cells #[.int .i64 q.op,.string q.text,.int .i64 q.n,.complex .f64 q.x q.y,v2] 32)).grownBy w3 sl.ownBlock) (hat:sl.ownBlock=some g ∨ g=w2.heap.size + 1) :
   zqi op t n x y kids len v w (.int .i64 (k + 1:Nat)) (w3.setCell ⟨w.heap.size + 1 + 1,4,none⟩ (.slice (some ⟨g,0,none⟩) (k + 1) cap')):=by
 have n1:=zbx hown (b:=w.heap.size) (by omega)
 have n2:=zbx hown (b:=w.heap.size + 1) (by omega)
 have n3:=zbx hown (b:=w.heap.size + 1 + 1) (by omega)
 have s2:wr.heap.size≤w2.heap.size:=hb2.size
 have s3:w2.heap.size + 1≤w3.heap.size:=by have:=hgrow.size;simpa using this
 have hsz:∀ a u,(w3.setCell a u).heap.size=w3.heap.size:=fun a u=>by simp [World.setCell]
 have zw:=hb.size
 have b1:Below w.heap.size w (w2.alloc (.cells #[.int .i64 q.op,.string q.text,.int .i64 q.n,.complex .f64 q.x q.y,v2] 32)):=(hb.drew.trans (hb2.mono zw)).alloc (by omega) _
 have b2:Below w.heap.size w w3:=b1.grown hgrow (by simp;omega) (fun j hj=>by have:=hown.lt j hj;omega)
 have hb4:Below w.heap.size w (w3.setCell ⟨w.heap.size + 1 + 1,4,none⟩ (.slice (some ⟨g,0,none⟩) (k + 1) cap')):=b2.setCell (by show _≤w.heap.size + 1 + 1;omega) _
 have hlt3:∀ j,sl.ownBlock=some j→j < wr.heap.size:=fun j hj=>(hown.lt j hj).2
 have hg:∀ b,b < w2.heap.size→some b ≠ sl.ownBlock→b ≠ g:=by
   intro b h1 h2 e
   rcases hat with h | h
   · exact h2 (by rw [e,h])
   · omega
 refine ⟨k + 1,_,xs ++ pc q v2,fun i=>if i=k then v2 else V i,hk,rfl,(((o1.drew.later hb2).alloc _).grown hgrow n1).setFar ⟨w.heap.size + 1 + 1,4,none⟩ _ (by show _ ≠ w.heap.size + 1 + 1;omega),(((o2.drew.later hb2).alloc _).grown hgrow n2).setFar ⟨w.heap.size + 1 + 1,4,none⟩ _ (by show _ ≠ w.heap.size + 1 + 1;omega),
   ?_,ownsRow_setCell_below hown3 (by simp) _,zt2 hown.1 hlaid hq,?_,hb4⟩
 · have:=(((o3.drew.later hb2).alloc _).grown hgrow n3).set 4 (.slice (some ⟨g,0,none⟩) (k + 1) cap')
   simpa using this
 · intro i p hi hp
   by_cases e:i=k
   · subst e
     rw [hq] at hp;cases hp
     simp only [if_true]
     refine hl2.mono (fun b o h=>?_) (fun b h=>?_)
     · have h1:some b ≠ sl.ownBlock:=fun e=>by have:=hlt3 b e.symm;have:wr.heap.size≤b:=h.1;omega
       rw [World.cell?_of_block (Below.heap_setCell _ _ _ _ (by have:wr.heap.size≤b:=h.1;have:=hb.size;have:=o3.lt;simp;omega))]
       rw [hgrow.cell_far _ (by have:=h.2;simp;omega) h1]
       exact World.cell?_of_block (Below.heap_alloc _ _ _ h.2)
     · have h1:some b ≠ sl.ownBlock:=fun e=>by have:=hlt3 b e.symm;have:wr.heap.size≤b:=h.1;omega
       have h0:wr.heap.size≤b:=h.1
       refine ⟨by have:=o3.lt;omega,by rw [hsz];have:=h.2;omega,?_⟩
       simp only [Value.ownBlock,ne_eq,Option.some.injEq]
       exact hg b h.2 h1
   · simp only [if_neg e]
     refine (hlies i p (by omega) hp).mono (fun b o h=>?_) (fun b h=>?_)
     · rw [World.cell?_of_block (Below.heap_setCell _ _ _ _ (by simp;omega))]
       rw [hgrow.cell_far _ (by simp;omega) h.2.2]
       rw [World.cell?_of_block (Below.heap_alloc _ _ _ (by simp;omega))]
       exact hb2.cell (p:=⟨b,o,none⟩) h.2.1
     · refine ⟨h.1,by rw [hsz];omega,?_⟩
       simp only [Value.ownBlock,ne_eq,Option.some.injEq]
       exact hg b (by omega) h.2.2
theorem zvo {op:Int} {t:ByteArray} {n:Int} {x y:Nat} {kids:List Pr} {B:Nat} {wr W:World} {cap':Nat} {oa:Option Addr} {xs:List Value} {V:Nat→Value} {k:Nat} (hk:kids.length=k) (ht:t.size≤maxLen)
   (hown:wr.ownsRow (B + 3) 32 5 (.slice oa k cap') k xs) (hlaid:Laid kids k xs V)
   (hlies:∀ i p,i < k→kids[i]?=some p→Lies 5 pc (fun b=>B + 3≤b∧b < wr.heap.size∧some b ≠ (Value.slice oa k cap').ownBlock) wr p (V i))
   (hW:∀ b o,B + 3≤b→W.cell? ⟨b,o,none⟩=wr.cell? ⟨b,o,none⟩) (hs:W.heap.size=wr.heap.size) :
   Lies 5 pc (fun b=>B≤b∧b < W.heap.size) W (.node op t n x y kids) (.slice oa k cap'):=by
 subst hk
 obtain ⟨oa',cap2,g,e,h1,h2,hg⟩:=zaq hown
 cases e
 refine .mk op t n x y kids oa cap' g 0 V ht h1 h2 (fun h=>⟨(hg h).1,by have:=(hg h).2.1;omega,by rw [hs];exact (hg h).2.2⟩) (fun i p hp j u hu=>?_) fun i p hp=>?_
 · have hi:=zc7 hp
   obtain ⟨rfl,hb,_⟩:=hg (by omega)
   have h3:=hlaid i p hi hp j u hu
   rw [hW _ _ hb,Nat.zero_add,hown.cellAt _ (by have:=(List.getElem?_eq_some_iff.1 h3).1;rw [hown.1] at this;exact this)]
   exact h3
 · exact (hlies i p (zc7 hp) hp).mono (fun b o h=>hW b o h.1) fun b h=>⟨by omega,by rw [hs];exact h.2.1⟩
theorem zjr {wr w2 w3:World} {base:Nat} {e:TypeId} {size:Nat} {v:Value} {n:Nat} {xs:List Value} {ob:Obj} (hown:wr.ownsRow base e size v n xs) (hb2:Below wr.drew.heap.size wr.drew w2) (hgrow:(w2.alloc ob).grownBy w3 v.ownBlock) {c:Nat} (hc:c < base) (hl:c < wr.heap.size) :
   ∀ o,w3.cell? ⟨c,o,none⟩=wr.cell? ⟨c,o,none⟩:=fun o=>by
 have h2:wr.heap.size≤w2.heap.size:=hb2.size
 rw [hgrow.cell_far _ (by simp;omega) (zbx hown hc),World.cell?_of_block (Below.heap_alloc _ _ _ (by show c < _;omega))]
 exact hb2.cell (p:=⟨c,o,none⟩) hl
theorem zg4 {wr w2:World} (hb2:Below wr.drew.heap.size wr.drew w2) {c:Nat} (hl:c < wr.heap.size):∀ o,w2.cell? ⟨c,o,none⟩=wr.cell? ⟨c,o,none⟩:=fun o=>hb2.cell (p:=⟨c,o,none⟩) hl
theorem zue {wr w2:World} (hb2:Below wr.drew.heap.size wr.drew w2) {c:Nat} (hl:c < wr.heap.size):∀ o ob,(w2.alloc ob).cell? ⟨c,o,none⟩=wr.cell? ⟨c,o,none⟩:=fun o ob=>by
 have h2:wr.heap.size≤w2.heap.size:=hb2.size
 rw [World.cell?_of_block (Below.heap_alloc _ _ _ (by show c < _;omega))]
 exact zg4 hb2 hl o
attribute [local go_sem ↓] Go.wp_at_zero Go.wp_at_succ
theorem zgt (p:Pr):∀ (v:Value) (w:World),LT w p v→p.size≤60 →
   Calls Tryz.prog 12 #[.agg #[.int .i64 p.op,.string p.text,.int .i64 p.n,.float .f64 p.x,.float .f64 p.y,v]] w (zx6 p w):=by
 induction p using Pr.ind with
 | h op t n x y kids ih =>
   intro v w hL hsz
   obtain ⟨oa,cap,b,o,V,rfl,ht,hl,hc,hn,hcell,hrec⟩:=zba hL
   simp only [Pr.kids_node,Pr.text_node,Pr.op_node,Pr.n_node,Pr.x_node,Pr.y_node,Pr.size] at *
   unfold maxLen at hc
   have h60:=Pr.len_le_sizes kids
   have HL:=y19h hL
   have HC:=y19h hcell
   have HR:=y19h hrec
   have HN:=y19h hn
   have HI:=y19h ih
   clear hL hcell hrec hn ih
   generalize hlen:kids.length=len at *
   have HLEN:=y19h hlen
   clear hlen
   go_enter Tryz.func12,Tryz.ntmps12
   go_wp2_with fail
   go_loopw [4] (fun i wr=>zqi op t n x y kids len (.slice oa len cap) w i wr) (fun i _=>len - (intOf i).toNat)
   case atStart =>
     exact ⟨0,.slice none 0 0,[],fun _=>.nilFunc,Nat.zero_le _,rfl,(((Own.new w _ _).alloc _).alloc _),((Own.newAt _ _ _ (by simp)).alloc _),Own.newAt _ _ _ (by simp),World.ownsRow_nil _ _ _ _,fun i p h=>absurd h (Nat.not_lt_zero _),fun i p h=>absurd h (Nat.not_lt_zero _),(((Below.refl _ _).alloc (Nat.le_refl _) _).alloc (by simp) _).alloc (by simp;omega) _⟩
   case round =>
     obtain ⟨k,sl,xs,V',hk,rfl,o1,o2,o3,hown,hlaid,hlies,hb⟩:=hrel
     by_cases hlt:k < len
     · obtain ⟨q,hq⟩:∃ q,kids[k]?=some q:=⟨_,List.getElem?_eq_getElem (by rw [HLEN.out];exact hlt)⟩
       obtain ⟨rfl,hS⟩:=HN.out (by omega)
       obtain ⟨c0,c1,c2,c3,c4,c5⟩:=zpg (w:=wr) (fun j u hu=>(hb.cell (p:=⟨b,o + k * 6 + j,none⟩) hS).trans (HC.out k q hq j u hu))
       have hqs:=Pr.size_mem (List.mem_of_getElem? hq)
       have CC:=HI.out q (List.mem_of_getElem? hq) (V k) wr.drew ((HR.out k q hq).later hb.drew (Nat.le_refl _)) (by omega)
       have HB:=y19h hb
       have HQ:=y19h hq
       have HLA:=y19h hlaid
       have HLI:=y19h hlies
       clear hb hq hlaid hlies
       obtain ⟨i0,hi,hz0,hz1,hz2⟩:=info_parts ztv
       have l1:=o1.cell 5
       have l3:=o3.cell 4
       have z1:=o1.lt
       have z3:=o3.lt
       have zb:b < wr.heap.size:=Nat.lt_of_lt_of_le hS HB.out.size
       simp at l1 l3
       go_wp2_with fail
       go_region_law
         (first
           | (go_simp;go_at_call 12;refine CC.mono ?_;rintro e w2 ⟨v2,rfl,hl2,hb2⟩;have gb:=zg4 hb2 zb;have g1:=zg4 hb2 z1;have g3:=zg4 hb2 z3;have a3:=zue hb2 z3)
           | ((refine step_append_lies _ (by rfl) _ _ _ (by rfl) (w.heap.size + 3) 32 i0 _ 5 72 Tryz.underlying30 hi hz0 hz1 hz2 rfl (by omega) sl k xs (by rfl) ((zau hown.drew hb2).alloc _) ⟨w2.heap.size,0,none⟩ 1 1 (pc q v2) (by rfl) (by rfl) (World.news_of_block (cs:=#[.int .i64 q.op,.string q.text,.int .i64 q.n,.complex .f64 q.x q.y,v2]) (t:=32) (fr:=(0,0)) (heap_alloc_new w2 _)) (zuk (zas hl2)) (by omega) (by unfold maxLen;omega) (by omega) (by have:wr.heap.size≤w2.heap.size:=hb2.size;simp;omega) (w2.heap.size + 1) (by simp) ?_;intro g cap' w3 hown3 hgrow hat hlt3;have fz:=(((o3.drew.later hb2).alloc _).grown hgrow (zbx hown (by omega))).free 4;have fb:=zjr hown hb2 hgrow (c:=b) (by omega) zb;have f1:=zjr hown hb2 hgrow (c:=w.heap.size) (by omega) z1;have f3:=zjr hown hb2 hgrow (c:=w.heap.size + 1 + 1) (by omega) z3)))
       all_goals
         have R:=zs8 (v:=.slice (some ⟨b,o,none⟩) len cap) hlt HQ.out o1 o2 o3 hown HLA.out HLI.out HB.out hl2 hb2 hown3 hgrow hat
         go_wp2_with fail
         go_roundw
         case rel=>exact R
         case measure=>simp [intOf];omega
     · have e:k=len:=by omega
       subst e
       obtain ⟨oa',cap',g,rfl,hc1,hc2,hg⟩:=zaq hown
       have HB:=y19h hb
       have HLA:=y19h hlaid
       have HLI:=y19h hlies
       have HO:=y19h hown
       have HG:=y19h hg
       clear hb hlaid hlies hown hg
       have l1:=o1.cell
       have l2:=o2.cell
       have l3:=o3.cell
       have f2:=o2.free
       have z1:=o1.lt
       have z2:=o2.lt
       have z3:=o3.lt
       go_wp2_with fail
       have of:=((((o2.set 0 (.int .i64 op)).set 1 (.string t)).set 2 (.int .i64 n)).set 3 (.complex .f64 x y)).set 4 (.slice oa' k cap')
       have bf:Below w.heap.size w (((((wr.setCell ⟨w.heap.size + 1,0,none⟩ (.int .i64 op)).setCell ⟨w.heap.size + 1,1,none⟩ (.string t)).setCell ⟨w.heap.size + 1,2,none⟩ (.int .i64 n)).setCell ⟨w.heap.size + 1,3,none⟩ (.complex .f64 x y)).setCell ⟨w.heap.size + 1,4,none⟩ (.slice oa' k cap')) :=
         ((((HB.out.setCell (by show _≤w.heap.size + 1;omega) _).setCell (by show _≤w.heap.size + 1;omega) _).setCell (by show _≤w.heap.size + 1;omega) _).setCell (by show _≤w.heap.size + 1;omega) _).setCell (by show _≤w.heap.size + 1;omega) _
       have hs:(((((wr.setCell ⟨w.heap.size + 1,0,none⟩ (.int .i64 op)).setCell ⟨w.heap.size + 1,1,none⟩ (.string t)).setCell ⟨w.heap.size + 1,2,none⟩ (.int .i64 n)).setCell ⟨w.heap.size + 1,3,none⟩ (.complex .f64 x y)).setCell ⟨w.heap.size + 1,4,none⟩ (.slice oa' k cap')).heap.size=wr.heap.size:=by simp [World.setCell]
       have hW:∀ b o,w.heap.size + 3≤b→(((((wr.setCell ⟨w.heap.size + 1,0,none⟩ (.int .i64 op)).setCell ⟨w.heap.size + 1,1,none⟩ (.string t)).setCell ⟨w.heap.size + 1,2,none⟩ (.int .i64 n)).setCell ⟨w.heap.size + 1,3,none⟩ (.complex .f64 x y)).setCell ⟨w.heap.size + 1,4,none⟩ (.slice oa' k cap')).cell? ⟨b,o,none⟩=wr.cell? ⟨b,o,none⟩:=fun b o h=>by
         have h1:b ≠ w.heap.size + 1:=by omega
         refine World.cell?_of_block ?_
         rw [Below.heap_setCell _ _ _ _ h1,Below.heap_setCell _ _ _ _ h1,Below.heap_setCell _ _ _ _ h1,Below.heap_setCell _ _ _ _ h1,Below.heap_setCell _ _ _ _ h1]
       have HE:=y19h (zvo (op:=op) (n:=n) (x:=x) (y:=y) HLEN.out ht HO.out HLA.out HLI.out hW hs)
       clear hW hs l1 l2 l3 f2 z1 z2 z3
       revert of bf HE
       generalize ((((wr.setCell ⟨w.heap.size + 1,0,none⟩ (.int .i64 op)).setCell ⟨w.heap.size + 1,1,none⟩ (.string t)).setCell ⟨w.heap.size + 1,2,none⟩ (.int .i64 n)).setCell ⟨w.heap.size + 1,3,none⟩ (.complex .f64 x y)).setCell ⟨w.heap.size + 1,4,none⟩ (.slice oa' k cap')=W
       intro of bf HE
       have lf:=of.cell
       refine bodyPost_ret (v:=.agg #[.int .i64 op,.string t,.int .i64 n,.complex .f64 x y,.slice oa' k cap']) (by simp [results,Tryz.results12,go_sem,lf]) rfl ⟨_,rfl,HE.out,bf⟩
end Go.Proofs.YtodfhabkdaiopaaGreat
namespace Go.Proofs.YtodfhabkdaiopaaGreat
set_option linter.unusedVariables false
set_option linter.unusedSimpArgs false
set_option maxRecDepth 100000
set_option maxHeartbeats 8000000
open Go.RowKit
end Go.Proofs.YtodfhabkdaiopaaGreat
