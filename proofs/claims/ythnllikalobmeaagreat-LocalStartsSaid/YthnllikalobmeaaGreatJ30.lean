/- Joined: Known, Left, Conv, LocH. -/
import Derived.Test.YthnllikalobmeaaGreatJ12
import Derived.Test.YthnllikalobmeaaGreatJ14
import Derived.Test.YthnllikalobmeaaGreatJ01
import Derived.Deep.RegionHeld3
import Derived.Deep.RegionLaw
import Derived.Deep.DrawnRows
import Derived.Test.YthnllikalobmeaaGreatJ29
import Derived.Test.YthnllikalobmeaaGreatJ04
namespace Go.Proofs.YthnllikalobmeaaGreat
set_option linter.unusedVariables false
set_option linter.unusedSimpArgs false
set_option maxRecDepth 100000
set_option maxHeartbeats 8000000
open Go.RowKit
theorem y30h {p:Prop} (h:p):Hid p:=Lib.hid h
def zui (K:Kn):Bool:=decide (K.l.length ≤ 30) && K.l.all fun f=>decide (f.ids.length ≤ 60)
def zc1 (K:Kn):Int:=if zui K = true then 1 else 0
def z1v (l:List Fr) (len:Nat) (X:Array Value) (w:World) (iv:Value) (wr:World):Prop :=
 ∃ k:Nat,k ≤ len ∧ iv = .int .i64 k ∧ Hid (∀ j f,j < k → l[j]? = some f → f.ids.length ≤ 60) ∧ wr = (w.alloc (.cells X 31))
theorem zqm (K:Kn) (v:Value) (w:World) (hR:FrW w K.l v) :
   Calls Tryz.prog 32 #[knV K.star v] w fun e w'=>e = .returned (.int .i64 (zc1 K)) ∧ Below w.heap.size w w':=by
 obtain ⟨A,l⟩:=K
 simp only at hR ⊢
 obtain ⟨U,oa,cap,b0,o,rfl,hr⟩:=hR
 have HR:=y30h hr
 have hcap:=hr.len
 have hmax:=hr.max
 unfold maxLen at hmax
 clear hr
 have HE:=y30h (show zc1 ⟨A,l⟩ = if (decide (l.length ≤ 30) && l.all fun f=>decide (f.ids.length ≤ 60)) = true then 1 else 0 from rfl)
 generalize zc1 ⟨A,l⟩ = res at *
 generalize hn:l.length = len at *
 have HN:=y30h hn
 clear hn
 have OA:=y30h (Has.new w (knA A (.slice oa len cap)) 31)
 have BE:=y30h ((Below.refl w.heap.size w).alloc (Nat.le_refl _) (.cells (knA A (.slice oa len cap)) 31))
 by_cases h30:30 < len
 · have E:=y30h (show res = 0 by rw [HE.out,if_neg (by simp;omega)])
   go_enter Tryz.func32,Tryz.ntmps32
   go_wp2_with fail
   go_ret
   exact ⟨zb0 E.out.symm,BE.out⟩
 go_enter Tryz.func32,Tryz.ntmps32
 go_wp2_with fail
 go_loopw [3] (fun iv wr=>z1v l len (knA A (.slice oa len cap)) w iv wr) (fun iv _=>len - (intOf iv).toNat)
 case atStart=>exact ⟨0,Nat.zero_le _,rfl,fun j f hj=>absurd hj (by omega),rfl⟩
 case round =>
   obtain ⟨k,hk,rfl,HA,rfl⟩:=hrel
   have l1:=OA.out.cell
   have z1:=OA.out.lt
   by_cases hlt:k < len
   · obtain ⟨f,hf⟩:∃ f,l[k]? = some f:=⟨_,List.getElem?_eq_getElem (by rw [HN.out];exact hlt)⟩
     obtain ⟨rfl,hb0⟩:=HR.out.at0 (by rw [HN.out];omega)
     obtain ⟨c0,_⟩:=za6 (w:=w) (fun j z hz=>HR.out.cell k f hf j z hz)
     obtain ⟨ou,cu,hu⟩:=(HR.out.ids k f hf).val
     rw [hu] at c0
     have HF:=y30h hf
     clear hf hu
     generalize hnf:f.ids.length = nf at *
     have HNF:=y30h hnf
     clear hnf
     by_cases h60:60 < nf
     · have E:=y30h (show res = 0 by
         rw [HE.out,if_neg]
         rw [Bool.and_eq_true,List.all_eq_true]
         rintro ⟨_,h⟩
         have:=h f (List.mem_of_getElem? HF.out)
         rw [decide_eq_true_eq,HNF.out] at this
         omega)
       go_wp2_with fail
       go_ret
       exact ⟨zb0 E.out.symm,BE.out⟩
     · have HA2:=y30h (show ∀ j g,j < k + 1 → l[j]? = some g → g.ids.length ≤ 60 from fun j g hj hg=>by
         by_cases e:j = k
         · subst e;rw [HF.out] at hg;cases hg;rw [HNF.out];omega
         · exact HA.out j g (by omega) hg)
       go_wp2_with fail
       go_roundw
       case rel=>exact ⟨k + 1,by omega,by go_num,HA2,by first | rfl | trivial⟩
       case measure=>simp [intOf];omega
   · have e:len = k:=by omega
     subst e
     have E:=y30h (show res = 1 by
       rw [HE.out,if_pos]
       rw [Bool.and_eq_true,List.all_eq_true]
       refine ⟨by simp;omega,fun f hf=>?_⟩
       obtain ⟨j,hj,e⟩:=List.mem_iff_getElem.1 hf
       rw [decide_eq_true_eq]
       exact HA.out j f (by have:=HN.out;omega) (by rw [List.getElem?_eq_getElem hj,e]))
     go_wp2_with fail
     go_ret
     exact ⟨zb0 E.out.symm,BE.out⟩
def zch (s m:Int):Int:=if s ≤ m then m - s else -1
theorem zup {s r:Int} (h:0 ≤ r) (h1:zch s r < 0):r < s:=by
 unfold zch at h1;split at h1 <;> omega
theorem zuq {s r:Int} (h1:0 ≤ zch s r):s ≤ r:=by
 unfold zch at h1;split at h1 <;> omega
def zyr (l:List Pr) (len:Nat) (m:Int) (w0:World) (most i:Value) (wr:World):Prop :=
 ∃ (k:Nat) (r:Int),k ≤ len ∧ i = .int .i64 k ∧ most = .int .i64 r ∧ 0 ≤ r ∧ r ≤ 60 ∧ Hid (r = m - (1 + Pr.sizes (l.take k):Nat)) ∧ Below w0.heap.size w0 wr
theorem zsp (p:Pr):∀ (v:Value) (m:Int) (w:World),LT w p v → -1 ≤ m → m ≤ 60 →
   Calls Tryz.prog 33 #[.agg #[.int .i64 p.op,.string p.text,.int .i64 p.n,.float .f64 p.x,.float .f64 p.y,v],.int .i64 m] w fun e w'=>e = .returned (.int .i64 (zch p.size m)) ∧ Below w.heap.size w w':=by
 induction p using Pr.ind with
 | h op t n x y kids ih =>
   intro v m w hL h1 h2
   obtain ⟨oa,cap,b,o,V,rfl,ht,hl,hc,hn,hcell,hrec⟩:=za9 hL
   simp only [Pr.kids_node,Pr.text_node,Pr.op_node,Pr.n_node,Pr.x_node,Pr.y_node,Pr.size] at *
   by_cases h0:m ≤ 0
   · have e:zch (1 + Pr.sizes kids:Nat) m = -1:=by unfold zch;rw [if_neg (by omega)]
     rw [e]
     clear e
     go_enter Tryz.func33,Tryz.ntmps33
     go_wp2_with fail
     go_ret
     exact ⟨rfl,(Below.refl _ _).alloc (Nat.le_refl _) _⟩
   · unfold maxLen at hc
     have E:=y30h (rfl:zch (1 + Pr.sizes kids:Nat) m = zch (1 + Pr.sizes kids:Nat) m)
     have HL:=y30h hL
     have HC:=y30h hcell
     have HR:=y30h hrec
     have HN:=y30h hn
     have HI:=y30h ih
     clear hL hcell hrec hn ih
     generalize hlen:kids.length = len at *
     have HLEN:=y30h hlen
     clear hlen
     go_enter Tryz.func33,Tryz.ntmps33
     go_wp2_with fail
     go_loopw [1,5] (fun most i wr=>zyr kids len m (w.alloc (.cells #[.int .i64 op,.string t,.int .i64 n,.float .f64 x,.float .f64 y,.slice oa len cap] 25)) most i wr) (fun _ i _=>len - (intOf i).toNat)
     case atStart=>exact ⟨0,m - 1,Nat.zero_le _,rfl,rfl,by omega,by omega,by simp [Hid,Pr.sizes],Below.refl _ _⟩
     case round =>
       obtain ⟨k,r,hk,rfl,rfl,hr0,hr1,HRr,hb⟩:=hrel
       have g:=(Has.new w #[.int .i64 op,.string t,.int .i64 n,.float .f64 x,.float .f64 y,.slice oa len cap] 25).below hb (by simp)
       by_cases hlt:k < len
       · obtain ⟨q,hq⟩:∃ q,kids[k]? = some q:=⟨_,List.getElem?_eq_getElem (by rw [HLEN.out];exact hlt)⟩
         obtain ⟨rfl,hS⟩:=HN.out (by omega)
         have hbw:Below w.heap.size w wr:=((Below.refl _ _).alloc (Nat.le_refl _) _).trans (hb.mono (by simp))
         obtain ⟨c0,c1,c2,c3,c4,c5⟩:=zp2 (w:=wr) (fun j u hu=>(hbw.cell (p:=⟨b,o + k * 6 + j,none⟩) hS).trans (HC.out k q hq j u hu))
         have CC:=HI.out q (List.mem_of_getElem? hq) (V k) r wr ((HR.out k q hq).later hbw (Nat.le_refl _)) (by omega) (by omega)
         have HB:=y30h hb
         have HQ:=y30h hq
         clear hb hbw hq
         have l:=g.cell
         have z:=g.lt
         clear g
         go_wp2_with (go_at_call 33;refine CC.mono ?_;rintro e w' ⟨rfl,hb'⟩)
         · have hneg:zch q.size r < 0:=by assumption
           have hbig:r < (q.size:Int):=zup hr0 hneg
           have h3:=Pr.sizes_take HQ.out
           have h4:=Pr.sizes_take_le kids (k + 1)
           have h5:=HRr.out
           go_ret
           exact ⟨zb0 (by unfold zch;rw [if_neg (by omega)]),zai (HB.out.trans (hb'.mono HB.out.size))⟩
         · have hneg:0 ≤ zch q.size r:=by assumption
           have hbig:(q.size:Int) ≤ r:=zuq hneg
           have h3:=Pr.sizes_take HQ.out
           have h5:=HRr.out
           have h6:=Pr.size_pos q
           have h7:zch q.size r = r - q.size:=if_pos hbig
           go_roundw
           case rel=>exact ⟨k + 1,r - q.size,by omega,by go_num,by rw [h7],by omega,by omega,by unfold Hid;rw [h3];omega,HB.out.trans (hb'.mono HB.out.size)⟩
           case measure=>simp [intOf];omega
       · have HB:=y30h hb
         clear hb
         have l:=g.cell
         have z:=g.lt
         clear g
         have e:k = len:=by omega
         have h5:=HRr.out
         rw [Pr.take_all kids (by rw [HLEN.out];omega)] at h5
         have H5:=y30h h5
         clear h5 e
         go_wp2_with fail
         go_ret
         have h5:=H5.out
         exact ⟨zb0 (by unfold zch;rw [if_pos (by omega)];exact h5),zai HB.out⟩
theorem zgc (p:Pr) (v:Value) (w:World) (hL:LT w p v) :
   Calls Tryz.prog 9 #[.agg #[.int .i64 p.op,.string p.text,.int .i64 p.n,.float .f64 p.x,.float .f64 p.y,v]] w fun e w'=>e = .returned (.int .i64 (if p.size ≤ 60 then 1 else 0)) ∧ Below w.heap.size w w':=by
 have H:=fun w' h=>y30h (zsp p v 60 w' h (by omega) (by omega))
 have L1:=fun o=>y30h (hL.atAlloc o)
 clear hL
 by_cases h:p.size ≤ 60
 · have h1:zch p.size 60 = 60 - p.size:=if_pos (by omega)
   have h2:¬ (zch p.size 60 < 0):=by omega
   rw [if_pos h]
   clear h1
   go_enter Tryz.func9,Tryz.ntmps9
   go_wp2_with (go_at_call 33;refine (H _ (L1 _).out).out.mono ?_;rintro e w' ⟨rfl,hb⟩)
   go_ret
   exact ⟨rfl,zai hb⟩
 · have h1:zch p.size 60 = -1:=if_neg (by omega)
   have h2:zch p.size 60 < 0:=by omega
   rw [if_neg h]
   clear h1
   go_enter Tryz.func9,Tryz.ntmps9
   go_wp2_with (go_at_call 33;refine (H _ (L1 _).out).out.mono ?_;rintro e w' ⟨rfl,hb⟩)
   go_ret
   exact ⟨rfl,zai hb⟩
theorem zug:(Tryz.prog.info? 40).map (fun i=>(i.zero,i.size,i.bytes)) = some (some (.agg #[.int .i64 0,.string ⟨#[]⟩,.int .i64 0,.complex .f64 0 0,.slice none 0 0]),5,72):=by kernel_rfl
def zyn (p:Pr) (w:World) (e:Ending) (w':World):Prop :=
 ∃ v',e = .returned (.agg #[.int .i64 p.op,.string p.text,.int .i64 p.n,.complex .f64 p.x p.y,v']) ∧ Lies 5 pc (fun b=>w.heap.size ≤ b ∧ b < w'.heap.size) w' p v' ∧ Below w.heap.size w w'
def Laid (l:List Pr) (k:Nat) (xs:List Value) (V:Nat → Value):Prop:=∀ i p,i < k → l[i]? = some p → ∀ j u,(pc p (V i))[j]? = some u → xs[i * 5 + j]? = some u
def zq2 (op:Int) (t:ByteArray) (n:Int) (x y:Nat) (kids:List Pr) (len:Nat) (v:Value) (w:World) (i:Value) (wr:World):Prop :=
 ∃ (k:Nat) (sl:Value) (xs:List Value) (V:Nat → Value),k ≤ len ∧ i = .int .i64 k ∧
   Own wr w.heap.size #[.int .i64 op,.string t,.int .i64 n,.float .f64 x,.float .f64 y,v] 25 ∧
   Own wr (w.heap.size + 1) #[.int .i64 0,.string ⟨#[]⟩,.int .i64 0,.complex .f64 0 0,.slice none 0 0] 40 ∧
   Own wr (w.heap.size + 1 + 1) #[.int .i64 op,.string t,.int .i64 n,.complex .f64 x y,sl] 40 ∧
   wr.ownsRow (w.heap.size + 3) 40 5 sl k xs ∧ Laid kids k xs V ∧
   (∀ i p,i < k → kids[i]? = some p → Lies 5 pc (fun b=>w.heap.size + 3 ≤ b ∧ b < wr.heap.size ∧ some b ≠ sl.ownBlock) wr p (V i)) ∧ Below w.heap.size w wr
theorem zum {l:List Pr} {k:Nat} {xs:List Value} {V:Nat → Value} {q:Pr} {v2:Value} (hx:xs.length = k * 5) (h:Laid l k xs V) (hq:l[k]? = some q):Laid l (k + 1) (xs ++ pc q v2) (fun i=>if i = k then v2 else V i):=by
 intro i p hi hp j u hu
 by_cases e:i = k
 · subst e
   rw [hq] at hp;cases hp
   simp only [if_true] at hu
   rw [List.getElem?_append_right (by omega),hx,show i * 5 + j - i * 5 = j by omega]
   exact hu
 · simp only [if_neg e] at hu
   have h1:=h i p (by omega) hp j u hu
   rw [List.getElem?_append_left (List.getElem?_eq_some_iff.1 h1).1]
   exact h1
theorem zt0 {op:Int} {t:ByteArray} {n:Int} {x y:Nat} {kids:List Pr} {len:Nat} {v:Value} {w wr w2 w3:World} {k g cap':Nat} {sl v2:Value} {xs:List Value} {V:Nat → Value} {q:Pr} (hk:k < len) (hq:kids[k]? = some q)
   (o1:Own wr w.heap.size #[.int .i64 op,.string t,.int .i64 n,.float .f64 x,.float .f64 y,v] 25)
   (o2:Own wr (w.heap.size + 1) #[.int .i64 0,.string ⟨#[]⟩,.int .i64 0,.complex .f64 0 0,.slice none 0 0] 40)
   (o3:Own wr (w.heap.size + 1 + 1) #[.int .i64 op,.string t,.int .i64 n,.complex .f64 x y,sl] 40)
   (hown:wr.ownsRow (w.heap.size + 3) 40 5 sl k xs) (hlaid:Laid kids k xs V)
   (hlies:∀ i p,i < k → kids[i]? = some p → Lies 5 pc (fun b=>w.heap.size + 3 ≤ b ∧ b < wr.heap.size ∧ some b ≠ sl.ownBlock) wr p (V i)) (hb:Below w.heap.size w wr)
   (hl2:Lies 5 pc (fun b=>wr.drew.heap.size ≤ b ∧ b < w2.heap.size) w2 q v2) (hb2:Below wr.drew.heap.size wr.drew w2)
   (hown3:w3.ownsRow (w.heap.size + 3) 40 5 (.slice (some ⟨g,0,none⟩) (k + 1) cap') (k + 1) (xs ++ pc q v2))
   (hgrow:(w2.alloc (.cells #[.int .i64 q.op,.string q.text,.int .i64 q.n,.complex .f64 q.x q.y,v2] 40)).grownBy w3 sl.ownBlock) (hat:sl.ownBlock = some g ∨ g = w2.heap.size + 1) :
   zq2 op t n x y kids len v w (.int .i64 (k + 1:Nat)) (w3.setCell ⟨w.heap.size + 1 + 1,4,none⟩ (.slice (some ⟨g,0,none⟩) (k + 1) cap')):=by
 have n1:=zbr hown (b:=w.heap.size) (by omega)
 have n2:=zbr hown (b:=w.heap.size + 1) (by omega)
 have n3:=zbr hown (b:=w.heap.size + 1 + 1) (by omega)
 have s2:wr.heap.size ≤ w2.heap.size:=hb2.size
 have s3:w2.heap.size + 1 ≤ w3.heap.size:=by have:=hgrow.size;simpa using this
 have hsz:∀ a u,(w3.setCell a u).heap.size = w3.heap.size:=fun a u=>by simp [World.setCell]
 have zw:=hb.size
 have b1:Below w.heap.size w (w2.alloc (.cells #[.int .i64 q.op,.string q.text,.int .i64 q.n,.complex .f64 q.x q.y,v2] 40)):=(hb.drew.trans (hb2.mono zw)).alloc (by omega) _
 have b2:Below w.heap.size w w3:=b1.grown hgrow (by simp;omega) (fun j hj=>by have:=hown.lt j hj;omega)
 have hb4:Below w.heap.size w (w3.setCell ⟨w.heap.size + 1 + 1,4,none⟩ (.slice (some ⟨g,0,none⟩) (k + 1) cap')):=b2.setCell (by show _ ≤ w.heap.size + 1 + 1;omega) _
 have hlt3:∀ j,sl.ownBlock = some j → j < wr.heap.size:=fun j hj=>(hown.lt j hj).2
 have hg:∀ b,b < w2.heap.size → some b ≠ sl.ownBlock → b ≠ g:=by
   intro b h1 h2 e
   rcases hat with h | h
   · exact h2 (by rw [e,h])
   · omega
 refine ⟨k + 1,_,xs ++ pc q v2,fun i=>if i = k then v2 else V i,hk,rfl,(((o1.drew.later hb2).alloc _).grown hgrow n1).setFar ⟨w.heap.size + 1 + 1,4,none⟩ _ (by show _ ≠ w.heap.size + 1 + 1;omega),(((o2.drew.later hb2).alloc _).grown hgrow n2).setFar ⟨w.heap.size + 1 + 1,4,none⟩ _ (by show _ ≠ w.heap.size + 1 + 1;omega),
   ?_,ownsRow_setCell_below hown3 (by simp) _,zum hown.1 hlaid hq,?_,hb4⟩
 · have:=(((o3.drew.later hb2).alloc _).grown hgrow n3).set 4 (.slice (some ⟨g,0,none⟩) (k + 1) cap')
   simpa using this
 · intro i p hi hp
   by_cases e:i = k
   · subst e
     rw [hq] at hp;cases hp
     simp only [if_true]
     refine hl2.mono (fun b o h=>?_) (fun b h=>?_)
     · have h1:some b ≠ sl.ownBlock:=fun e=>by have:=hlt3 b e.symm;have:wr.heap.size ≤ b:=h.1;omega
       rw [World.cell?_of_block (Below.heap_setCell _ _ _ _ (by have:wr.heap.size ≤ b:=h.1;have:=hb.size;have:=o3.lt;simp;omega))]
       rw [hgrow.cell_far _ (by have:=h.2;simp;omega) h1]
       exact World.cell?_of_block (Below.heap_alloc _ _ _ h.2)
     · have h1:some b ≠ sl.ownBlock:=fun e=>by have:=hlt3 b e.symm;have:wr.heap.size ≤ b:=h.1;omega
       have h0:wr.heap.size ≤ b:=h.1
       refine ⟨by have:=o3.lt;omega,by rw [hsz];have:=h.2;omega,?_⟩
       simp only [Value.ownBlock,ne_eq,Option.some.injEq]
       exact hg b h.2 h1
   · simp only [if_neg e]
     refine (hlies i p (by omega) hp).mono (fun b o h=>?_) (fun b h=>?_)
     · rw [World.cell?_of_block (Below.heap_setCell _ _ _ _ (by simp;omega))]
       rw [hgrow.cell_far _ (by simp;omega) h.2.2]
       rw [World.cell?_of_block (Below.heap_alloc _ _ _ (by simp;omega))]
       exact hb2.cell (p:=⟨b,o,none⟩) h.2.1
     · refine ⟨h.1,by rw [hsz];omega,?_⟩
       simp only [Value.ownBlock,ne_eq,Option.some.injEq]
       exact hg b (by omega) h.2.2
theorem zv9 {op:Int} {t:ByteArray} {n:Int} {x y:Nat} {kids:List Pr} {B:Nat} {wr W:World} {cap':Nat} {oa:Option Addr} {xs:List Value} {V:Nat → Value} {k:Nat} (hk:kids.length = k) (ht:t.size ≤ maxLen)
   (hown:wr.ownsRow (B + 3) 40 5 (.slice oa k cap') k xs) (hlaid:Laid kids k xs V)
   (hlies:∀ i p,i < k → kids[i]? = some p → Lies 5 pc (fun b=>B + 3 ≤ b ∧ b < wr.heap.size ∧ some b ≠ (Value.slice oa k cap').ownBlock) wr p (V i))
   (hW:∀ b o,B + 3 ≤ b → W.cell? ⟨b,o,none⟩ = wr.cell? ⟨b,o,none⟩) (hs:W.heap.size = wr.heap.size) :
   Lies 5 pc (fun b=>B ≤ b ∧ b < W.heap.size) W (.node op t n x y kids) (.slice oa k cap'):=by
 subst hk
 obtain ⟨oa',cap2,g,e,h1,h2,hg⟩:=zan hown
 cases e
 refine .mk op t n x y kids oa cap' g 0 V ht h1 h2 (fun h=>⟨(hg h).1,by have:=(hg h).2.1;omega,by rw [hs];exact (hg h).2.2⟩) (fun i p hp j u hu=>?_) fun i p hp=>?_
 · have hi:=zcm hp
   obtain ⟨rfl,hb,_⟩:=hg (by omega)
   have h3:=hlaid i p hi hp j u hu
   rw [hW _ _ hb,Nat.zero_add,hown.cellAt _ (by have:=(List.getElem?_eq_some_iff.1 h3).1;rw [hown.1] at this;exact this)]
   exact h3
 · exact (hlies i p (zcm hp) hp).mono (fun b o h=>hW b o h.1) fun b h=>⟨by omega,by rw [hs];exact h.2.1⟩
theorem zjp {wr w2 w3:World} {base:Nat} {e:TypeId} {size:Nat} {v:Value} {n:Nat} {xs:List Value} {ob:Obj} (hown:wr.ownsRow base e size v n xs) (hb2:Below wr.drew.heap.size wr.drew w2) (hgrow:(w2.alloc ob).grownBy w3 v.ownBlock) {c:Nat} (hc:c < base) (hl:c < wr.heap.size) :
   ∀ o,w3.cell? ⟨c,o,none⟩ = wr.cell? ⟨c,o,none⟩:=fun o=>by
 have h2:wr.heap.size ≤ w2.heap.size:=hb2.size
 rw [hgrow.cell_far _ (by simp;omega) (zbr hown hc),World.cell?_of_block (Below.heap_alloc _ _ _ (by show c < _;omega))]
 exact hb2.cell (p:=⟨c,o,none⟩) hl
theorem zg7 {wr w2:World} (hb2:Below wr.drew.heap.size wr.drew w2) {c:Nat} (hl:c < wr.heap.size):∀ o,w2.cell? ⟨c,o,none⟩ = wr.cell? ⟨c,o,none⟩:=fun o=>hb2.cell (p:=⟨c,o,none⟩) hl
theorem zuy {wr w2:World} (hb2:Below wr.drew.heap.size wr.drew w2) {c:Nat} (hl:c < wr.heap.size):∀ o ob,(w2.alloc ob).cell? ⟨c,o,none⟩ = wr.cell? ⟨c,o,none⟩:=fun o ob=>by
 have h2:wr.heap.size ≤ w2.heap.size:=hb2.size
 rw [World.cell?_of_block (Below.heap_alloc _ _ _ (by show c < _;omega))]
 exact zg7 hb2 hl o
attribute [local go_sem ↓] Go.wp_at_zero Go.wp_at_succ
theorem zey (p:Pr):∀ (v:Value) (w:World),LT w p v → p.size ≤ 60 →
   Calls Tryz.prog 14 #[.agg #[.int .i64 p.op,.string p.text,.int .i64 p.n,.float .f64 p.x,.float .f64 p.y,v]] w (zyn p w):=by
 induction p using Pr.ind with
 | h op t n x y kids ih =>
   intro v w hL hsz
   obtain ⟨oa,cap,b,o,V,rfl,ht,hl,hc,hn,hcell,hrec⟩:=za9 hL
   simp only [Pr.kids_node,Pr.text_node,Pr.op_node,Pr.n_node,Pr.x_node,Pr.y_node,Pr.size] at *
   unfold maxLen at hc
   have h60:=Pr.len_le_sizes kids
   have HL:=y30h hL
   have HC:=y30h hcell
   have HR:=y30h hrec
   have HN:=y30h hn
   have HI:=y30h ih
   clear hL hcell hrec hn ih
   generalize hlen:kids.length = len at *
   have HLEN:=y30h hlen
   clear hlen
   go_enter Tryz.func14,Tryz.ntmps14
   go_wp2_with fail
   go_loopw [4] (fun i wr=>zq2 op t n x y kids len (.slice oa len cap) w i wr) (fun i _=>len - (intOf i).toNat)
   case atStart =>
     exact ⟨0,.slice none 0 0,[],fun _=>.nilFunc,Nat.zero_le _,rfl,(((Own.new w _ _).alloc _).alloc _),((Own.newAt _ _ _ (by simp)).alloc _),Own.newAt _ _ _ (by simp),World.ownsRow_nil _ _ _ _,fun i p h=>absurd h (Nat.not_lt_zero _),fun i p h=>absurd h (Nat.not_lt_zero _),(((Below.refl _ _).alloc (Nat.le_refl _) _).alloc (by simp) _).alloc (by simp;omega) _⟩
   case round =>
     obtain ⟨k,sl,xs,V',hk,rfl,o1,o2,o3,hown,hlaid,hlies,hb⟩:=hrel
     by_cases hlt:k < len
     · obtain ⟨q,hq⟩:∃ q,kids[k]? = some q:=⟨_,List.getElem?_eq_getElem (by rw [HLEN.out];exact hlt)⟩
       obtain ⟨rfl,hS⟩:=HN.out (by omega)
       obtain ⟨c0,c1,c2,c3,c4,c5⟩:=zp2 (w:=wr) (fun j u hu=>(hb.cell (p:=⟨b,o + k * 6 + j,none⟩) hS).trans (HC.out k q hq j u hu))
       have hqs:=Pr.size_mem (List.mem_of_getElem? hq)
       have CC:=HI.out q (List.mem_of_getElem? hq) (V k) wr.drew ((HR.out k q hq).later hb.drew (Nat.le_refl _)) (by omega)
       have HB:=y30h hb
       have HQ:=y30h hq
       have HLA:=y30h hlaid
       have HLI:=y30h hlies
       clear hb hq hlaid hlies
       obtain ⟨i0,hi,hz0,hz1,hz2⟩:=info_parts zug
       have l1:=o1.cell 5
       have l3:=o3.cell 4
       have z1:=o1.lt
       have z3:=o3.lt
       have zb:b < wr.heap.size:=Nat.lt_of_lt_of_le hS HB.out.size
       simp at l1 l3
       go_wp2_with fail
       go_region_law
         (first
           | (go_simp;go_at_call 14;refine CC.mono ?_;rintro e w2 ⟨v2,rfl,hl2,hb2⟩;have gb:=zg7 hb2 zb;have g1:=zg7 hb2 z1;have g3:=zg7 hb2 z3;have a3:=zuy hb2 z3)
           | ((refine step_append_lies _ (by rfl) _ _ _ (by rfl) (w.heap.size + 3) 40 i0 _ 5 72 Tryz.underlying38 hi hz0 hz1 hz2 rfl (by omega) sl k xs (by rfl) ((zau hown.drew hb2).alloc _) ⟨w2.heap.size,0,none⟩ 1 1 (pc q v2) (by rfl) (by rfl) (World.news_of_block (cs:=#[.int .i64 q.op,.string q.text,.int .i64 q.n,.complex .f64 q.x q.y,v2]) (t:=40) (fr:=(0,0)) (heap_alloc_new w2 _)) (zu6 (zar hl2)) (by omega) (by unfold maxLen;omega) (by omega) (by have:wr.heap.size ≤ w2.heap.size:=hb2.size;simp;omega) (w2.heap.size + 1) (by simp) ?_;intro g cap' w3 hown3 hgrow hat hlt3;have fz:=(((o3.drew.later hb2).alloc _).grown hgrow (zbr hown (by omega))).free 4;have fb:=zjp hown hb2 hgrow (c:=b) (by omega) zb;have f1:=zjp hown hb2 hgrow (c:=w.heap.size) (by omega) z1;have f3:=zjp hown hb2 hgrow (c:=w.heap.size + 1 + 1) (by omega) z3)))
       all_goals
         have R:=zt0 (v:=.slice (some ⟨b,o,none⟩) len cap) hlt HQ.out o1 o2 o3 hown HLA.out HLI.out HB.out hl2 hb2 hown3 hgrow hat
         go_wp2_with fail
         go_roundw
         case rel=>exact R
         case measure=>simp [intOf];omega
     · have e:k = len:=by omega
       subst e
       obtain ⟨oa',cap',g,rfl,hc1,hc2,hg⟩:=zan hown
       have HB:=y30h hb
       have HLA:=y30h hlaid
       have HLI:=y30h hlies
       have HO:=y30h hown
       have HG:=y30h hg
       clear hb hlaid hlies hown hg
       have l1:=o1.cell
       have l2:=o2.cell
       have l3:=o3.cell
       have f2:=o2.free
       have z1:=o1.lt
       have z2:=o2.lt
       have z3:=o3.lt
       go_wp2_with fail
       have of:=((((o2.set 0 (.int .i64 op)).set 1 (.string t)).set 2 (.int .i64 n)).set 3 (.complex .f64 x y)).set 4 (.slice oa' k cap')
       have bf:Below w.heap.size w (((((wr.setCell ⟨w.heap.size + 1,0,none⟩ (.int .i64 op)).setCell ⟨w.heap.size + 1,1,none⟩ (.string t)).setCell ⟨w.heap.size + 1,2,none⟩ (.int .i64 n)).setCell ⟨w.heap.size + 1,3,none⟩ (.complex .f64 x y)).setCell ⟨w.heap.size + 1,4,none⟩ (.slice oa' k cap')) :=
         ((((HB.out.setCell (by show _ ≤ w.heap.size + 1;omega) _).setCell (by show _ ≤ w.heap.size + 1;omega) _).setCell (by show _ ≤ w.heap.size + 1;omega) _).setCell (by show _ ≤ w.heap.size + 1;omega) _).setCell (by show _ ≤ w.heap.size + 1;omega) _
       have hs:(((((wr.setCell ⟨w.heap.size + 1,0,none⟩ (.int .i64 op)).setCell ⟨w.heap.size + 1,1,none⟩ (.string t)).setCell ⟨w.heap.size + 1,2,none⟩ (.int .i64 n)).setCell ⟨w.heap.size + 1,3,none⟩ (.complex .f64 x y)).setCell ⟨w.heap.size + 1,4,none⟩ (.slice oa' k cap')).heap.size = wr.heap.size:=by simp [World.setCell]
       have hW:∀ b o,w.heap.size + 3 ≤ b → (((((wr.setCell ⟨w.heap.size + 1,0,none⟩ (.int .i64 op)).setCell ⟨w.heap.size + 1,1,none⟩ (.string t)).setCell ⟨w.heap.size + 1,2,none⟩ (.int .i64 n)).setCell ⟨w.heap.size + 1,3,none⟩ (.complex .f64 x y)).setCell ⟨w.heap.size + 1,4,none⟩ (.slice oa' k cap')).cell? ⟨b,o,none⟩ = wr.cell? ⟨b,o,none⟩:=fun b o h=>by
         have h1:b ≠ w.heap.size + 1:=by omega
         refine World.cell?_of_block ?_
         rw [Below.heap_setCell _ _ _ _ h1,Below.heap_setCell _ _ _ _ h1,Below.heap_setCell _ _ _ _ h1,Below.heap_setCell _ _ _ _ h1,Below.heap_setCell _ _ _ _ h1]
       have HE:=y30h (zv9 (op:=op) (n:=n) (x:=x) (y:=y) HLEN.out ht HO.out HLA.out HLI.out hW hs)
       clear hW hs l1 l2 l3 f2 z1 z2 z3
       revert of bf HE
       generalize ((((wr.setCell ⟨w.heap.size + 1,0,none⟩ (.int .i64 op)).setCell ⟨w.heap.size + 1,1,none⟩ (.string t)).setCell ⟨w.heap.size + 1,2,none⟩ (.int .i64 n)).setCell ⟨w.heap.size + 1,3,none⟩ (.complex .f64 x y)).setCell ⟨w.heap.size + 1,4,none⟩ (.slice oa' k cap') = W
       intro of bf HE
       have lf:=of.cell
       refine bodyPost_ret (v:=.agg #[.int .i64 op,.string t,.int .i64 n,.complex .f64 x y,.slice oa' k cap']) (by simp [results,Tryz.results14,go_sem,lf]) rfl ⟨_,rfl,HE.out,bf⟩
end Go.Proofs.YthnllikalobmeaaGreat
namespace Go.Proofs.YthnllikalobmeaaGreat
set_option linter.unusedVariables false
set_option linter.unusedSimpArgs false
set_option maxRecDepth 100000
set_option maxHeartbeats 8000000
open Go.RowKit
def errV (n:Nat):Value:=if n = 0 then .nilIface else .iface 88 (.int .i64 n)
theorem zqw (n k:Int) (w:World):(binOp .eql 47 (.iface 88 (.int .i64 n)) (.iface 88 (.int .i64 k))).run Tryz.prog w = .ok (.bool (n == k)) w:=by
 have hc:(Tryz.prog.info? 88).map (·.comparable) = some true:=by kernel_rfl
 cases hq:Tryz.prog.info? 88 with
 | none=>rw [hq] at hc;cases hc
 | some i =>
   have h1:i.comparable = true:=by rw [hq] at hc;simpa using hc
   have e:(Op.equalIn 9999 88 (.int .i64 n) (.int .i64 k)).run Tryz.prog w = .ok (n == k) w:=by
     unfold Op.equalIn
     simp [run_underlying Tryz.underlying88]
   have e2:(Op.equalIn 10000 47 (.iface 88 (.int .i64 n)) (.iface 88 (.int .i64 k))).run Tryz.prog w = .ok (n == k) w:=by
     rw [show (10000:Nat) = 9999 + 1 from rfl]
     unfold Op.equalIn
     simp [run_underlying Tryz.underlying47,typeInfo,hq,h1,e]
   simp [binOp,Op.equal,Op.maxDepth,e2]
attribute [local go_sem ↓] zqw
def zym (n:Nat) (w0:World) (i:Value) (wr:World):Prop:=∃ k:Nat,1 ≤ k ∧ k ≤ n ∧ i = .int .i64 k ∧ Hid (w0 = wr)
theorem zr8 (n:Nat) (hn:n ≤ 10) (w:World) :
   Calls Tryz.prog 17 #[errV n] w fun e w'=>e = .returned (.int .i64 n) ∧ w = w':=by
 by_cases h0:n = 0
 · subst h0
   rw [show errV 0 = .nilIface from rfl]
   go_enter Tryz.func17,Tryz.ntmps17
   go_wp2_with fail
   go_ret
   exact ⟨rfl,rfl⟩
 · rw [show errV n = .iface 88 (.int .i64 n) from if_neg h0]
   go_enter Tryz.func17,Tryz.ntmps17
   go_wp2_with fail
   go_loopw [3] (fun i wr=>zym n w i wr) (fun i _=>11 - (intOf i).toNat)
   case atStart=>exact ⟨1,Nat.le_refl _,by omega,rfl,rfl⟩
   case round =>
     obtain ⟨k,hk1,hk,rfl,hw⟩:=hrel
     have ew:=hw.out
     subst ew
     clear hw
     have g1:(k:Int) ≤ 10:=by omega
     by_cases e:n = k
     · subst e
       go_wp2_with fail
       go_ret
       exact ⟨rfl,rfl⟩
     · have g2:((n:Int) == (k:Int)) = false:=by rw [beq_eq_false_iff_ne];omega
       go_wp2_with fail
       go_roundw
       case rel=>exact ⟨k + 1,by omega,by omega,by go_num,rfl⟩
       case measure=>simp [intOf];omega
def zcf (n:Int):Int:=if n.tmod 4 < 0 then n.tmod 4 + 4 else n.tmod 4
theorem zrn (n:Int):0 ≤ zcf n ∧ zcf n ≤ 3:=by
 have h1:n.tmod 4 < 4:=Int.tmod_lt_of_pos n (by decide)
 have h2:-4 < n.tmod 4:=Int.lt_tmod_of_pos n (by decide)
 unfold zcf
 split <;> omega
theorem zk1 (n:Int) (w:World) :
   Calls Tryz.prog 24 #[.int .i64 n,.int .i64 4] w fun e w'=>e = .returned (.int .i64 (zcf n)) ∧ w = w':=by
 have h1:n.tmod 4 < 4:=Int.tmod_lt_of_pos n (by decide)
 have h2:-4 < n.tmod 4:=Int.lt_tmod_of_pos n (by decide)
 unfold zcf
 by_cases h:n.tmod 4 < 0
 · rw [if_pos h]
   go_enter Tryz.func24,Tryz.ntmps24
   go_wp2_with fail
   go_ret
   exact ⟨rfl,rfl⟩
 · rw [if_neg h]
   go_enter Tryz.func24,Tryz.ntmps24
   go_wp2_with fail
   go_ret
   exact ⟨rfl,rfl⟩
def zih (p:Pr):Int:=if p.size ≤ 60 then 1 else 0
def zcc (s:St):Int:=if 60 < s.store.length ∨ 60 < s.out.length then 0 else zih s.f * zc1 s.k
theorem zi9 (s:St) (fv sv ov kv:Value) (w:World) (hS:SiW w s fv sv ov kv) :
   Calls Tryz.prog 8 #[siV s fv sv ov kv] w fun e w'=>e = .returned (.int .i64 (zcc s)) ∧ Below w.heap.size w w':=by
 obtain ⟨o1,c1,rfl⟩:=hS.ls.val
 obtain ⟨o2,c2,rfl⟩:=hS.lo.val
 have OA:=y30h (Has.new w (siL s fv (.slice o1 s.store.length c1) (.slice o2 s.out.length c2) kv).toArray 33)
 have BEL:=y30h ((Below.refl w.heap.size w).alloc (Nat.le_refl _) (.cells (siL s fv (.slice o1 s.store.length c1) (.slice o2 s.out.length c2) kv).toArray 33))
 have HS:=y30h (hS.alloc (.cells (siL s fv (.slice o1 s.store.length c1) (.slice o2 s.out.length c2) kv).toArray 33))
 have C1:=fun w' h=>y30h (zgc s.f fv w' h)
 have C2:=fun w' h=>y30h (zqm s.k kv w' h)
 clear hS
 have l0:=OA.out.cell
 have z0:=OA.out.lt
 unfold zcc zih
 by_cases hb:60 < s.store.length ∨ 60 < s.out.length
 · rw [if_pos hb]
   have hways:decide ((60:Int) < (s.store.length:Int)) = true ∨ (decide ((60:Int) < (s.store.length:Int)) = false ∧ decide ((60:Int) < (s.out.length:Int)) = true):=by
     by_cases h:60 < s.store.length
     · exact .inl (decide_eq_true (by omega))
     · refine .inr ⟨decide_eq_false (by omega),decide_eq_true ?_⟩
       rcases hb with h' | h'
       · exact absurd h' h
       · omega
   clear hb C1 C2
   rcases hways with g1 | ⟨g1,g2⟩
   all_goals
     go_enter Tryz.func8,Tryz.ntmps8
     go_wp2_with fail
     go_ret
     exact ⟨rfl,BEL.out⟩
 · rw [if_neg hb]
   have g1:decide ((60:Int) < (s.store.length:Int)) = false:=decide_eq_false (by omega)
   have g2:decide ((60:Int) < (s.out.length:Int)) = false:=decide_eq_false (by omega)
   clear hb
   have hv:Hid (((if s.f.size ≤ 60 then (1:Int) else 0) = 0 ∨ (if s.f.size ≤ 60 then (1:Int) else 0) = 1) ∧ (zc1 s.k = 0 ∨ zc1 s.k = 1)):=y30h ⟨by split <;> simp,by unfold zc1;split <;> simp⟩
   generalize (if s.f.size ≤ 60 then (1:Int) else 0) = a at *
   generalize zc1 s.k = b at *
   have hv2:=hv.out
   clear hv
   rcases hv2 with ⟨rfl | rfl,rfl | rfl⟩
   all_goals
     go_enter Tryz.func8,Tryz.ntmps8
     go_upto_region 3 with fail
     have OA2:=y30h OA.out.drew
     have HS2:=y30h HS.out.drew
     have BE2:=y30h BEL.out.drew
     clear l0 z0
     go_region_held3 (fun w'=>∀ o,w'.cell? ⟨w.heap.size,o,none⟩ = (siL s fv (.slice o1 s.store.length c1) (.slice o2 s.out.length c2) kv).toArray[o]?) (first | with_reducible exact OA2.out.cell) (first
       | (go_simp;go_at_call 9;refine (C1 _ HS2.out.lf).out.mono ?_;rintro e w3 ⟨rfl,hb⟩;replace OA2:=y30h (OA2.out.below hb OA2.out.lt);replace HS2:=y30h (HS2.out.later hb);replace BE2:=y30h (BE2.out.trans (hb.mono BE2.out.size));clear hb)
       | (go_simp;go_at_call 32;refine (C2 _ HS2.out.lk).out.mono ?_;rintro e w4 ⟨rfl,hb⟩;replace OA2:=y30h (OA2.out.below hb OA2.out.lt);replace HS2:=y30h (HS2.out.later hb);replace BE2:=y30h (BE2.out.trans (hb.mono BE2.out.size));clear hb)
       | fail)
     go_wp2_with fail
     go_ret
     exact ⟨rfl,BE2.out⟩
end Go.Proofs.YthnllikalobmeaaGreat
