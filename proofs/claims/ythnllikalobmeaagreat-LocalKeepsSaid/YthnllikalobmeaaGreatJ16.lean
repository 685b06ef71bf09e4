/- Joined: ListW, Fits, OpenK, Tree. -/
import Derived.Test.YthnllikalobmeaaGreatJ14
import Derived.Test.YthnllikalobmeaaGreatJ13
import Derived.Test.YthnllikalobmeaaGreatJ08
import Derived.Test.YthnllikalobmeaaGreatJ11
import Derived.Deep.Slices
import Derived.Test.YthnllikalobmeaaGreatJ10
import Derived.Test.YthnllikalobmeaaGreatJ06
namespace Go.Proofs.YthnllikalobmeaaGreat
set_option linter.unusedVariables false
set_option linter.unusedSimpArgs false
set_option maxRecDepth 100000
set_option maxHeartbeats 8000000
open Go.RowKit
theorem y16h {p:Prop} (h:p):Hid p:=Lib.hid h
theorem Row.val {sz:Nat} {f:Itm → List Value} {w:World} {l:List Itm} {v:Value} (h:Row sz f w l v):∃ oa cap,v = .slice oa l.length cap:=by
 obtain ⟨oa,cap,_,_,e,_⟩:=h
 exact ⟨oa,cap,e⟩
theorem Row.alloc {sz:Nat} {f:Itm → List Value} {w:World} {l:List Itm} {v:Value} (h:Row sz f w l v) (o:Obj):Row sz f (w.alloc o) l v:=h.later ((Below.refl _ _).alloc (Nat.le_refl _) _)
theorem Row.drew {sz:Nat} {f:Itm → List Value} {w:World} {l:List Itm} {v:Value} (h:Row sz f w l v):Row sz f w.drew l v:=h.later (Below.refl _ _).drew
theorem Row.oks {sz:Nat} {f:Itm → List Value} {w:World} {l:List Itm} {v:Value} (h:Row sz f w l v):∀ i ∈ l,i.id.size ≤ maxLen ∧ i.kd.size ≤ maxLen:=by
 obtain ⟨_,_,_,_,_,h⟩:=h
 exact h.ok
abbrev iA (i:Itm):Array Value:=#[.string i.id,.int .i64 i.r,.int .i64 i.c,.int .i64 i.st,.string i.kd,.int .i64 i.num,.complex .f64 i.x i.y,.bool i.d]
theorem zcc (w:World) (z:Itm) (t:TypeId) (hz:z.id.size ≤ maxLen ∧ z.kd.size ≤ maxLen):Row 8 ic (w.alloc (.cells (iA z) t)) [z] (.slice (some ⟨w.heap.size,0,none⟩) 1 1):=by
 refine ⟨_,1,w.heap.size,0,rfl,Nat.le_refl _,by decide,fun _=>⟨rfl,by simp⟩,fun k i hk j u hu=>?_,fun i hi=>by simp at hi;subst hi;exact hz⟩
 match k,hk with
 | 0,hk =>
   simp at hk;subst hk
   have:=(Has.new w (iA z) t).cell j
   rw [Nat.zero_mul,Nat.zero_add,this]
   simpa using hu
def zbc (l:List Itm):Bool:=l.all mayT && zce l
theorem zf5 {f:Itm → Itm → Bool}:∀ {l:List Itm},(∀ i ∈ l,f i i = true) → zbe f l l = true
 | [],_=>rfl
 | a :: l,h=>by
   rw [zbe,h a (by simp),zf5 fun i hi=>h i (by simp [hi])];rfl
theorem zjx {l m:List Itm} {f:Itm → Itm → Bool}:(zao f l m).length ≤ l.length + m.length:=by
 unfold zao
 induction m generalizing l with
 | nil=>simp
 | cons y m ih =>
   have:=zt6 f l y
   have h:=ih (l:=zby f l y)
   rw [List.foldl_cons]
   simp only [List.length_cons];omega
theorem zkf {p:Pr} {s d:Int} (h:s < p.size):p.fitsB s d = false:=by
 unfold Pr.fitsB;simp;omega
theorem zi1 {p:Pr} {s d:Int} (h:d < p.depth):p.fitsB s d = false:=by
 unfold Pr.fitsB;simp;omega
theorem zl7 {p:Pr} {s d:Int} (h:p.all = false):p.fitsB s d = false:=by
 unfold Pr.fitsB;simp [h]
theorem fits_true {p:Pr} {s d:Int}:p.fitsB s d = true ↔ (p.size:Int) ≤ s ∧ (p.depth:Int) ≤ d ∧ p.all = true:=by
 unfold Pr.fitsB;simp
theorem zjr {l:List Pr} {q:Pr} (h:q ∈ l) (ha:q.all = false):Pr.alls l = false:=by
 cases e:Pr.alls l with
 | false=>rfl
 | true=>rw [Pr.all_mem h e] at ha;cases ha
theorem zs1 {op:Int} {t:ByteArray} {n:Int} {x y:Nat} {kids:List Pr} {k:Nat} {q:Pr} {s d r:Int} (hq:kids[k]? = some q) (hr:s = r + 1 + (Pr.sizes (kids.take k):Nat)) (h:q.fitsB r (d - 1) = false) :
   (Pr.node op t n x y kids).fitsB s d = false:=by
 have h1:=Pr.sizes_take hq
 have h2:=Pr.sizes_take_le kids (k + 1)
 have h3:=Pr.depth_mem (List.mem_of_getElem? hq)
 by_cases c1:(q.size:Int) ≤ r
 · by_cases c2:(q.depth:Int) ≤ d - 1
   · refine zl7 ?_
     have c3:q.all = false:=by
       cases e:q.all with
       | false=>rfl
       | true=>rw [fits_true.2 ⟨c1,c2,e⟩] at h;cases h
     simp only [Pr.all]
     rw [zjr (List.mem_of_getElem? hq) c3];simp
   · exact zi1 (by simp only [Pr.depth];omega)
 · exact zkf (by simp only [Pr.size];omega)
def zwa (l:List Pr) (len:Nat) (s d:Int) (w0:World) (left ok i:Value) (wr:World):Prop :=
 ∃ (k:Nat) (r:Int),k ≤ len ∧ i = .int .i64 k ∧ left = .int .i64 r ∧ ok = .bool true ∧ 0 ≤ r ∧ r ≤ 30 ∧ Hid (s = r + 1 + (Pr.sizes (l.take k):Nat)) ∧ Hid ((Pr.depths (l.take k):Int) ≤ d - 1 ∧ Pr.alls (l.take k) = true) ∧ Below w0.heap.size w0 wr
def fitV (p:Pr) (s d:Int):Ending:=if p.fitsB s d = true then .returned (.tuple #[.int .i64 (s - p.size),.bool true]) else .returned (.tuple #[.int .i64 0,.bool false])
theorem zcp {p:Pr} {s d:Int} (h:p.fitsB s d = false):fitV p s d = .returned (.tuple #[.int .i64 0,.bool false]):=by
 unfold fitV;rw [h];rfl
theorem zgp {p:Pr} {s d:Int} (h:p.fitsB s d = true):fitV p s d = .returned (.tuple #[.int .i64 (s - p.size),.bool true]):=by
 unfold fitV;rw [h];rfl
theorem zpe (p:Pr):∀ (v:Value) (s d:Int) (w:World),LP w p v → 0 ≤ s → s ≤ 30 → 0 ≤ d → d ≤ 6 →
   Calls Tryz.prog 72 #[.agg #[.int .i64 p.op,.string p.text,.int .i64 p.n,.complex .f64 p.x p.y,v],.int .i64 s,.int .i64 d] w fun e w'=>e = fitV p s d ∧ Below w.heap.size w w':=by
 induction p using Pr.ind with
 | h op t n x y kids ih =>
   intro v s d w hL hs0 hs1 hd0 hd1
   obtain ⟨oa,cap,b,o,V,rfl,ht,hl,hc,hn,hcell,hrec⟩:=zbh hL
   simp only [Pr.kids_node,Pr.text_node,Pr.op_node,Pr.n_node,Pr.x_node,Pr.y_node] at *
   unfold maxLen at hc
   have HC:=y16h hcell
   have HR:=y16h hrec
   have HN:=y16h hn
   have HI:=y16h ih
   clear hL hcell hrec hn ih
   by_cases e1:s = 0
   · subst e1
     rw [zcp (zkf (by simp only [Pr.size];omega))]
     go_enter Tryz.func72,Tryz.ntmps72
     go_wp2_with fail
     go_ret2
     exact ⟨rfl,(Below.refl _ _).alloc (Nat.le_refl _) _⟩
   by_cases e2:d = 0
   · subst e2
     rw [zcp (zi1 (by simp only [Pr.depth];omega))]
     have g1:(s == 0) = false:=by rw [beq_eq_false_iff_ne];exact e1
     go_enter Tryz.func72,Tryz.ntmps72
     go_wp2_with fail
     go_ret2
     exact ⟨rfl,(Below.refl _ _).alloc (Nat.le_refl _) _⟩
   have g1:(s == 0) = false:=by rw [beq_eq_false_iff_ne];exact e1
   have g2:(d == 0) = false:=by rw [beq_eq_false_iff_ne];exact e2
   have hs2:1 ≤ s:=by omega
   have hd2:1 ≤ d:=by omega
   have P:=fun w=>zj4 op t n x y oa kids.length cap w
   cases hp:Pr.partB op t n x y kids.length
   · rw [hp] at P
     have P:=fun w=>y16h (P w)
     rw [zcp (zl7 (by simp only [Pr.all];rw [hp];rfl))]
     clear hp
     go_enter Tryz.func72,Tryz.ntmps72
     go_wp2_with (go_at_call 120;refine (P _).out.mono ?_;rintro e w' ⟨rfl,hb⟩)
     go_ret2
     exact ⟨rfl,zal hb⟩
   · rw [hp] at P
     have P:=fun w=>y16h (P w)
     have HP:=y16h hp
     clear hp e1 e2
     generalize hlen:kids.length = len at *
     have HLEN:=y16h hlen
     clear hlen
     generalize hV0:fitV (.node op t n x y kids) s d = E0
     have HV0:=y16h hV0
     clear hV0
     go_enter Tryz.func72,Tryz.ntmps72
     go_wp2_with fail
     refine (P _).out.mono ?_;rintro e w1 ⟨rfl,hb1⟩
     have g:=(Has.new w #[.int .i64 op,.string t,.int .i64 n,.complex .f64 x y,.slice oa len cap] 40).below hb1 (by simp)
     have HB1:=y16h hb1
     clear hb1
     have l:=g.cell
     have z:=g.lt
     go_wp2_with fail
     clear l z
     go_loopw [8,9,28] (fun left ok i wr=>zwa kids len s d w1 left ok i wr) (fun _ _ i _=>len - (intOf i).toNat)
     case atStart=>exact ⟨0,s - 1,Nat.zero_le _,rfl,rfl,rfl,by omega,by omega,by simp [Hid,Pr.sizes],by simp [Hid,Pr.depths,Pr.alls];omega,Below.refl _ _⟩
     case round =>
       obtain ⟨k,r,hk,rfl,rfl,rfl,hr0,hr1,HRr,HD,hb⟩:=hrel
       have g:=g.below hb g.lt
       by_cases hlt:k < len
       · obtain ⟨q,hq⟩:∃ q,kids[k]? = some q:=⟨_,List.getElem?_eq_getElem (by rw [HLEN.out];exact hlt)⟩
         obtain ⟨rfl,hB⟩:=HN.out (by omega)
         obtain ⟨oq,cq,hV⟩:=zam (HR.out k q hq)
         have hbw:Below w.heap.size w wr:=(zal HB1.out).trans (hb.mono (zal HB1.out).size)
         obtain ⟨c0,c1,c2,c3,c4⟩:=zc1 (w:=wr) (fun j u hu=>(hbw.cell (p:=⟨b,o + k * 5 + j,none⟩) hB).trans (HC.out k q hq j u hu))
         have L0:=(HR.out k q hq).later hbw (Nat.le_refl _)
         rw [hV] at c4 L0
         have CC:=fun w' h=>HI.out q (List.mem_of_getElem? hq) (.slice oq q.kids.length cq) r (d - 1) w' h hr0 hr1 (by omega) (by omega)
         have L1:=fun ob=>y16h (L0.atAlloc ob)
         have h3:=Pr.sizes_take hq
         have h5:=Pr.depths_take hq
         have h6:=Pr.alls_take hq
         have h7:=HRr.out
         have h8:=HD.out
         have HB:=y16h hb
         cases hf:q.fitsB r (d - 1)
         · have HF:=y16h (zs1 (op:=op) (t:=t) (n:=n) (x:=x) (y:=y) hq h7 hf)
           rw [zcp hf] at CC
           have CC:=fun w' h=>y16h (CC w' h)
           clear hb hbw hq L0 h3 h5 h6 h7 h8 hV hf
           have l:=g.cell
           have z:=g.lt
           clear g
           go_wp2_with (go_at_call 72;refine (CC _ (L1 _).out).out.mono ?_;rintro e w' ⟨rfl,hb'⟩)
           go_ret2
           exact ⟨(HV0.out.symm.trans (zcp HF.out)).symm,(zal HB1.out).trans ((HB.out.trans ((zal hb').mono HB.out.size)).mono (zal HB1.out).size)⟩
         · obtain ⟨f1,f2,f3⟩:=fits_true.1 hf
           have q1:(0:Int) ≤ r - q.size:=by omega
           have q2:r - q.size ≤ 30:=by omega
           have HRr1:=y16h (show s = (r - q.size) + 1 + (Pr.sizes (kids.take (k + 1)):Nat) by rw [h3];omega)
           have HD1:=y16h (show (Pr.depths (kids.take (k + 1)):Int) ≤ d - 1 ∧ Pr.alls (kids.take (k + 1)) = true from ⟨by rw [h5];omega,by rw [h6,h8.2,f3];rfl⟩)
           rw [zgp hf] at CC
           have CC:=fun w' h=>y16h (CC w' h)
           clear hb hbw hq L0 h3 h5 h6 h7 h8 hV hf f2 f3
           have l:=g.cell
           have z:=g.lt
           clear g
           go_wp2_with (go_at_call 72;refine (CC _ (L1 _).out).out.mono ?_;rintro e w' ⟨rfl,hb'⟩)
           go_roundw
           case rel=>exact ⟨k + 1,r - q.size,by omega,by go_num,rfl,rfl,q1,q2,HRr1.out,HD1.out,HB.out.trans ((zal hb').mono HB.out.size)⟩
           case measure=>simp [intOf];omega
       · have HB:=y16h hb
         clear hb
         have l:=g.cell
         have z:=g.lt
         clear g
         have e:k = len:=by omega
         have h7:=HRr.out
         have h8:=HD.out
         rw [Pr.take_all kids (by rw [HLEN.out];omega)] at h7 h8
         have hf:(Pr.node op t n x y kids).fitsB s d = true:=fits_true.2 ⟨by simp only [Pr.size];omega,by simp only [Pr.depth];omega,by simp only [Pr.all];rw [HLEN.out,HP.out,h8.2];rfl⟩
         have HE:=y16h (show E0 = .returned (.tuple #[.int .i64 r,.bool true]) by rw [← HV0.out,zgp hf];simp only [Pr.size];congr 5;omega)
         clear h7 h8 e hf
         go_wp2_with fail
         go_ret2
         exact ⟨HE.out.symm,(zal HB1.out).trans (HB.out.mono (zal HB1.out).size)⟩
theorem zcz (p:Pr) (v:Value) (w:World) (hL:LP w p v) :
   Calls Tryz.prog 36 #[.agg #[.int .i64 p.op,.string p.text,.int .i64 p.n,.complex .f64 p.x p.y,v]] w fun e w'=>e = .returned (.bool p.mayB) ∧ Below w.heap.size w w':=by
 have H:=fun w' h=>zpe p v 30 6 w' h (by omega) (by omega) (by omega) (by omega)
 have L1:=fun o=>y16h (hL.atAlloc o)
 clear hL
 unfold Pr.mayB
 cases hf:p.fitsB 30 6
 · rw [zcp hf] at H
   have H:=fun w' h=>y16h (H w' h)
   clear hf
   go_enter Tryz.func36,Tryz.ntmps36
   go_wp2_with (go_at_call 72;refine (H _ (L1 _).out).out.mono ?_;rintro e w' ⟨rfl,hb⟩)
   go_ret
   exact ⟨rfl,zal hb⟩
 · rw [zgp hf] at H
   have H:=fun w' h=>y16h (H w' h)
   clear hf
   go_enter Tryz.func36,Tryz.ntmps36
   go_wp2_with (go_at_call 72;refine (H _ (L1 _).out).out.mono ?_;rintro e w' ⟨rfl,hb⟩)
   go_ret
   exact ⟨rfl,zal hb⟩
end Go.Proofs.YthnllikalobmeaaGreat
namespace Go.Proofs.YthnllikalobmeaaGreat
set_option linter.unusedVariables false
set_option linter.unusedSimpArgs false
set_option maxRecDepth 100000
set_option maxHeartbeats 8000000
open Go.ChangeShapes Go.WideShapes Go.ChangeAt Go.RowKit Go.Deep
section
variable {H:Type} {enc:TypeId × Value → H} {w:World} {base:Nat} {spare:Nat → Bool} {held:Bool} {fuel:Nat} {cs:List Value} {x:DataW H × List MemPlace}
theorem zqc (h:DataW.trod enc Tryz.prog w base spare held fuel 103 cs = some x):∃ (l:List ByteArray) (v:Value),cs = [v] ∧ TxW w l v:=by
 rcases open_slice1 Tryz.underlying103 (by kernel_rfl) h with ⟨rfl,_⟩ | ⟨a,len,cap,m,n,V,D,Pl,rfl,_,hl,hm,hmm,_,hx⟩
 · exact ⟨[],_,rfl,none,0,0,0,rfl,Nat.le_refl _,by decide,fun h=>absurd h (by simp),fun k s hk=>by simp at hk,fun s hs=>by simp at hs⟩
 · have hlm:len ≤ m:=by rw [hmm];split <;> omega
   have key:∀ i,i < len → ∃ s:ByteArray,V i = .string s ∧ s.size ≤ maxLen:=by
     intro i hi
     obtain ⟨s,k,_,z⟩:=DataW.trod_string Tryz.underlying9 (hx i (by omega)).2
     simp only [List.cons.injEq,and_true] at k
     exact ⟨s,k,z⟩
   classical
   let S:Nat → ByteArray:=fun i=>if h:i < len then (key i h).choose else ⟨#[]⟩
   have hS:∀ i,i < len → V i = .string (S i) ∧ (S i).size ≤ maxLen:=by
     intro i hi
     simp only [S,dif_pos hi]
     exact (key i hi).choose_spec
   have hlk:((List.range len).map S).length = len:=by simp
   have hs:0 < len → a.spot = none ∧ a.block < w.heap.size:=by
     intro h0
     have h1:=(hx 0 (by omega)).1
     have e:a.add 0 = a:=by simp [Addr.add]
     rw [e] at h1
     exact ⟨World.cell?_spot h1,World.block_lt_of_cell? w _ h1⟩
   refine ⟨(List.range len).map S,_,rfl,some a,cap,a.block,a.off,by rw [hlk],by rw [hlk];exact hl,hm,fun h=>?_,fun k s hk=>?_,fun s hs=>?_⟩
   · rw [hlk] at h
     exact ⟨congrArg some (zhy (hs h).1),(hs h).2⟩
   · obtain ⟨hk',rfl⟩:=zda S hk
     rw [← zha (hs (by omega)).1,(hx k (by omega)).1,(hS k hk').1]
   · obtain ⟨k,hk,e⟩:=List.mem_iff_getElem.1 hs
     obtain ⟨hk,rfl⟩:=zda S (by rw [List.getElem?_eq_getElem hk,e])
     exact (hS k hk).2
theorem zsd (h:DataW.trod enc Tryz.prog w base spare held fuel 105 cs = some x):∃ (f:Fr) (u:Value),cs = fc f u ∧ TxW w f.ids u:=by
 obtain ⟨xs,n,hn,hx,hl,hxl,hf⟩:=DataW.trod_struct Tryz.underlying105 h
 have hl':cs.length = 9:=hl.trans (by kernel_rfl)
 have hxl':xs.length = 2:=hxl.trans (by kernel_rfl)
 have h0:DataW.trod enc Tryz.prog w base spare held n 103 ((cs.drop 0).take (Tryz.prog.cellsOf 103)) = xs[0]?:=hf 0 _ rfl
 have h1:DataW.trod enc Tryz.prog w base spare held n 28 ((cs.drop 1).take (Tryz.prog.cellsOf 28)) = xs[1]?:=hf 1 _ rfl
 rw [show Tryz.prog.cellsOf 103 = 1 by kernel_rfl,List.getElem?_eq_getElem (by omega)] at h0
 rw [show Tryz.prog.cellsOf 28 = 8 by kernel_rfl,List.getElem?_eq_getElem (by omega)] at h1
 match cs,hl' with
 | [c0,c1,c2,c3,c4,c5,c6,c7,c8],_ =>
   obtain ⟨l,v,e,ht⟩:=zqc h0
   obtain ⟨A,e'⟩:=zm7 h1
   simp at e e'
   obtain ⟨e1,e2,e3,e4,e5,e6,e7,e8⟩:=e'
   subst e e1 e2 e3 e4 e5 e6 e7 e8
   exact ⟨⟨l,A⟩,_,rfl,ht⟩
theorem zqb (h:DataW.trod enc Tryz.prog w base spare held fuel 29 cs = some x):∃ (l:List Fr) (v:Value),cs = [v] ∧ FrW w l v:=by
 rcases open_slice Tryz.underlying29 h with ⟨rfl,_⟩ | ⟨a,len,cap,m,n,D,Pl,rfl,_,hl,hm,hmm,_,hx⟩
 · exact ⟨[],_,rfl,fun _=>.nilFunc,none,0,0,0,rfl,Nat.le_refl _,by decide,fun h=>absurd h (by simp),fun k f hk=>by simp at hk,fun k f hk=>by simp at hk⟩
 · have hlm:len ≤ m:=by rw [hmm];split <;> omega
   have hC:Tryz.prog.cellsOf 105 = 9:=by kernel_rfl
   rw [hC] at hx
   have key:∀ i,i < len → ∃ (f:Fr) (u:Value),(∀ j z,(fc f u)[j]? = some z → w.cell? (a.add (i * 9 + j)) = some z) ∧ TxW w f.ids u:=by
     intro i hi
     obtain ⟨cs',h2,h3⟩:=hx i (by omega)
     obtain ⟨_,hcl,hat⟩:=World.cells?_some h2
     obtain ⟨f,u,rfl,ht⟩:=zsd h3
     refine ⟨f,u,fun j z hz=>?_,ht⟩
     have hj:j < 9:=(List.getElem?_eq_some_iff.1 hz).1
     rw [← Go.Deep.add_add,hat j hj,hz]
   classical
   let F:Nat → Fr:=fun i=>if h:i < len then (key i h).choose else ⟨[],zac⟩
   let U:Nat → Value:=fun i=>if h:i < len then (key i h).choose_spec.choose else .nilFunc
   have hFU:∀ i,i < len → (∀ j z,(fc (F i) (U i))[j]? = some z → w.cell? (a.add (i * 9 + j)) = some z) ∧ TxW w (F i).ids (U i):=by
     intro i hi
     have:=(key i hi).choose_spec.choose_spec
     simp only [F,U,dif_pos hi]
     exact this
   have hlk:((List.range len).map F).length = len:=by simp
   have hs:0 < len → a.spot = none ∧ a.block < w.heap.size:=by
     intro h0
     have h1:=(hFU 0 h0).1 0 _ rfl
     have e:a.add (0 * 9 + 0) = a:=by simp [Addr.add]
     rw [e] at h1
     exact ⟨World.cell?_spot h1,World.block_lt_of_cell? w _ h1⟩
   refine ⟨(List.range len).map F,_,rfl,U,some a,cap,a.block,a.off,by rw [hlk],by rw [hlk];exact hl,hm,fun h=>?_,fun k f hk j z hz=>?_,fun k f hk=>?_⟩
   · rw [hlk] at h
     exact ⟨congrArg some (zhy (hs h).1),(hs h).2⟩
   · obtain ⟨hk',rfl⟩:=zda F hk
     have h1:=(hFU k hk').1 j z hz
     rw [zha (hs (by omega)).1] at h1
     rw [Nat.add_assoc];exact h1
   · obtain ⟨hk',rfl⟩:=zda F hk
     exact (hFU k hk').2
end
end Go.Proofs.YthnllikalobmeaaGreat
namespace Go.Proofs.YthnllikalobmeaaGreat
set_option linter.unusedVariables false
set_option linter.unusedSimpArgs false
set_option maxRecDepth 100000
set_option maxHeartbeats 8000000
open Go.ChangeShapes Go.WideShapes Go.ChangeAt Go.RowKit Go.Deep
section
variable {H:Type} {enc:TypeId × Value → H} {w:World} {base:Nat} {spare:Nat → Bool} {held:Bool}
theorem zse (fuel:Nat) (ih:∀ n,n < fuel → ∀ (cs:List Value) (x:DataW H × List MemPlace),DataW.trod enc Tryz.prog w base spare held n 25 cs = some x → ∃ p v,cs = tc p v ∧ Lies 6 tc (fun b=>b < w.heap.size) w p v)
   {cs:List Value} {x:DataW H × List MemPlace} (h:DataW.trod enc Tryz.prog w base spare held fuel 23 cs = some x) :
   ∃ (kids:List Pr) (v:Value),cs = [v] ∧ ∀ op (t:ByteArray) n y z,t.size ≤ maxLen → Lies 6 tc (fun b=>b < w.heap.size) w (.node op t n y z kids) v:=by
 rcases DataW.trod_slice Tryz.underlying23 h with ⟨rfl,_⟩ | ⟨a,len,cap,elems,rest,n,hf,rfl,_,hb,hl,hm,hlen,hel,_,_⟩
 · exact ⟨[],_,rfl,fun op t n y z ht=>.mk op t n y z [] none 0 0 0 (fun _=>.nilFunc) ht (Nat.le_refl _) (Nat.zero_le _) (fun h=>absurd h (Nat.lt_irrefl _)) (fun i p h=>by simp at h) (fun i p h=>by simp at h)⟩
 · have hC:Tryz.prog.cellsOf 25 = 6:=by kernel_rfl
   rw [hC] at hel
   have key:∀ i,i < len → ∃ p v,(∀ j u,(tc p v)[j]? = some u → w.cell? (a.add (i * 6 + j)) = some u) ∧ Lies 6 tc (fun b=>b < w.heap.size) w p v:=by
     intro i hi
     have h1:=hel i hi
     rw [List.getElem?_eq_getElem (by omega)] at h1
     obtain ⟨cs',h2,h3⟩:=Option.bind_eq_some_iff.1 h1
     obtain ⟨_,hcl,hat⟩:=World.cells?_some h2
     obtain ⟨p,v,rfl,hL⟩:=ih n (by omega) cs' _ h3
     refine ⟨p,v,fun j u hu=>?_,hL⟩
     have hj:j < 6:=by
       have:=(List.getElem?_eq_some_iff.1 hu).1;simpa [tc] using this
     rw [← Go.Deep.add_add,hat j hj,hu]
   classical
   let P:Nat → Pr:=fun i=>if h:i < len then (key i h).choose else .node 0 ⟨#[]⟩ 0 0 0 []
   let V:Nat → Value:=fun i=>if h:i < len then (key i h).choose_spec.choose else .nilFunc
   have hPV:∀ i,i < len → (∀ j u,(tc (P i) (V i))[j]? = some u → w.cell? (a.add (i * 6 + j)) = some u) ∧ Lies 6 tc (fun b=>b < w.heap.size) w (P i) (V i):=by
     intro i hi
     have:=(key i hi).choose_spec.choose_spec
     simp only [P,V,dif_pos hi]
     exact this
   have hk:∀ (i:Nat) (q:Pr),((List.range len).map P)[i]? = some q → i < len ∧ q = P i:=by
     intro i q hq
     rw [List.getElem?_map] at hq
     cases h:(List.range len)[i]? with
     | none=>rw [h] at hq;cases hq
     | some k =>
       rw [h] at hq
       obtain ⟨h1,h2⟩:=List.getElem?_eq_some_iff.1 h
       simp at h1 h2 hq
       subst h2
       exact ⟨h1,hq.symm⟩
   have hlk:((List.range len).map P).length = len:=by simp
   have hs:0 < len → a.spot = none ∧ a.block < w.heap.size:=by
     intro h0
     have h1:=(hPV 0 h0).1 0 _ rfl
     have e:a.add (0 * 6 + 0) = a:=by simp [Addr.add]
     rw [e] at h1
     exact ⟨World.cell?_spot h1,World.block_lt_of_cell? w _ h1⟩
   refine ⟨(List.range len).map P,_,rfl,fun op t n y z ht=>?_⟩
   have:=Lies.mk (sz:=6) (c:=tc) (S:=fun b=>b < w.heap.size) (w:=w) op t n y z ((List.range len).map P) (some a) cap a.block a.off V ht (by rw [hlk];exact hl) hm
     (fun h=>by
       rw [hlk] at h
       refine ⟨?_,(hs h).2⟩
       have h1:=(hs h).1
       obtain ⟨b,o,s⟩:=a
       simp only at h1;subst h1;rfl)
     (fun i p hp j u hu=>by
       obtain ⟨hi,rfl⟩:=hk i p hp
       have h1:=(hPV i hi).1 j u hu
       rw [zha (hs (by omega)).1] at h1
       rw [Nat.add_assoc];exact h1)
     (fun i p hp=>by
       obtain ⟨hi,rfl⟩:=hk i p hp
       exact (hPV i hi).2)
   rw [hlk] at this
   exact this
theorem zkz (fuel:Nat):∀ (cs:List Value) (x:DataW H × List MemPlace),DataW.trod enc Tryz.prog w base spare held fuel 25 cs = some x → ∃ p v,cs = tc p v ∧ Lies 6 tc (fun b=>b < w.heap.size) w p v:=by
 induction fuel using Nat.strongRecOn with
 | ind fuel ih =>
   intro cs x h
   obtain ⟨xs,n,hn,hx,hl,hxl,hf⟩:=DataW.trod_struct Tryz.underlying25 h
   have hl':cs.length = 6:=hl.trans (by kernel_rfl)
   have F:=fun i f hi=>zl3 (P:=Tryz.prog) (by kernel_rfl) (by rw [hl'];rfl) hxl hf i f hi
   match cs,hl' with
   | [c0,c1,c2,c3,c4,c5],_ =>
     obtain ⟨_,_,e0,t0⟩:=F 0 _ rfl
     obtain ⟨_,_,e1,t1⟩:=F 1 _ rfl
     obtain ⟨_,_,e2,t2⟩:=F 2 _ rfl
     obtain ⟨_,_,e3,t3⟩:=F 3 _ rfl
     obtain ⟨_,_,e4,t4⟩:=F 4 _ rfl
     obtain ⟨_,_,e5,t5⟩:=F 5 _ rfl
     obtain ⟨s0,k0,_,z0⟩:=DataW.trod_int Tryz.underlying3 t0
     obtain ⟨s1,k1,_,z1⟩:=DataW.trod_string Tryz.underlying9 t1
     obtain ⟨s2,k2,_,z2⟩:=DataW.trod_int Tryz.underlying3 t2
     obtain ⟨s3,k3⟩:=zct Tryz.underlying22 t3
     obtain ⟨s4,k4⟩:=zct Tryz.underlying22 t4
     obtain ⟨kids,v,k5,hL⟩:=zse n (fun n' hn'=>ih n' (by omega)) t5
     simp only [List.cons.injEq,and_true] at k0 k1 k2 k3 k4 k5
     simp at e0 e1 e2 e3 e4 e5
     subst e0 e1 e2 e3 e4 e5 k0 k1 k2 k3 k4 k5
     exact ⟨.node s0 s1 s2 s3 s4 kids,_,rfl,hL _ _ _ _ _ z1⟩
end
end Go.Proofs.YthnllikalobmeaaGreat
