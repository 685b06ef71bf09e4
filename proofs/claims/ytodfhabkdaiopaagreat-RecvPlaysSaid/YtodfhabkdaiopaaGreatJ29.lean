/- Joined: KConc, KPlain, KFrag, LocS. -/
import Derived.Test.YtodfhabkdaiopaaGreatJ13
import Derived.Shelf.Spec.SlicesGrow
import Derived.Lib.AppendZeros
import Derived.Test.YtodfhabkdaiopaaGreatJ28
import Derived.Test.YtodfhabkdaiopaaGreatJ20
import Derived.Test.YtodfhabkdaiopaaGreatJ21
import Derived.Test.YtodfhabkdaiopaaGreatJ03
import Derived.Test.YtodfhabkdaiopaaGreatJ24
import Derived.Test.YtodfhabkdaiopaaGreatJ12
import Derived.Test.YtodfhabkdaiopaaGreatJ26
namespace Go.Proofs.YtodfhabkdaiopaaGreat
set_option linter.unusedVariables false
set_option linter.unusedSimpArgs false
set_option maxRecDepth 100000
set_option maxHeartbeats 8000000
open Go.RowKit
theorem y29h {p:Prop} (h:p):Go.RowKit.Hid p:=Lib.hid h
def growA_ren:Go.Shelf.Ren:=⟨fun | 4=>198 | n=>n,
 fun | 22=>36 | 25=>162 | 3=>3 | 4=>4 | 9=>9 | 20=>20 | 0=>0 | n=>n,
 fun | n=>n⟩
theorem zxx:Go.Proofs.Lays8.n4 Tryz.prog growA_ren:={
 mixed:=by kernel_rfl,
 f4:=⟨Tryz.f198.name,by decide,Tryz.func198.trans (congrArg some (by kernel_rfl))⟩,
 t0:=Tryz.underlying0,
 a0:=Tryz.isAgg0,
 z0:=Tryz.sizeOf0,
 v0:=Tryz.zeroValue0,
 t3:=Tryz.underlying3,
 a3:=Tryz.isAgg3,
 z3:=Tryz.sizeOf3,
 v3:=Tryz.zeroValue3,
 t4:=Tryz.underlying4,
 a4:=Tryz.isAgg4,
 z4:=Tryz.sizeOf4,
 v4:=Tryz.zeroValue4,
 t9:=Tryz.underlying9,
 a9:=Tryz.isAgg9,
 z9:=Tryz.sizeOf9,
 v9:=Tryz.zeroValue9,
 t20:=Tryz.underlying20,
 a20:=Tryz.isAgg20,
 z20:=Tryz.sizeOf20,
 v20:=Tryz.zeroValue20,
 t22:=Tryz.underlying36,
 a22:=Tryz.isAgg36,
 z22:=Tryz.sizeOf36,
 v22:=Tryz.zeroValue36 }
theorem zrs (n:Nat) (hn:n≤20000) (w:World) :
   Calls Tryz.prog 198 #[.slice none 0 0,.int .i64 n] w fun e w'=>∃ v,e=.returned v∧w'.ownsRow w.heap.size 162 9 v 0 []∧Below w.heap.size w w':=by
 obtain ⟨j0,hj,hy0,hy1,hy2⟩:=info_parts zc5
 by_cases h0:n=0
 · subst h0
   refine (Any8.slices_Grow_room zxx none 0 0 0 w (by omega) (by omega) (by omega) (by omega)).mono ?_
   rintro e w' ⟨rfl,rfl⟩
   exact ⟨_,rfl,World.ownsRow_nil _ _ _ _,Below.refl _ _⟩
 · refine (Any8.slices_Grow_grow zxx j0 _ hj hy0 (by rw [hy1];omega) none 0 0 n [] w (by omega) (by omega) (by rw [hy2];omega) (by omega) (by simp) (fun _=>rfl) (fun a h=>by cases h)).mono ?_
   rintro e w' ⟨rfl,rfl⟩
   have hge:=grownCap_ge w (0 + n) 0 (growA_ren.t 25)
   have hle:=grownCap_le_maxLen w (0 + n) 0 (growA_ren.t 25) (by unfold maxLen;omega)
   refine ⟨_,rfl,⟨by simp,.inr ⟨w.heap.size,_,_,rfl,Nat.le_refl _,heap_alloc_new w.drew _,by omega,hle,?_,by simp⟩⟩,(Below.refl _ _).drew.alloc (Nat.le_refl _) _⟩
   simp only [Array.size_append,List.size_toArray,size_zeroCells,List.length_nil,Nat.zero_add,Nat.sub_zero]
   rw [← Nat.add_mul]
   rw [show (Value.cells (.agg #[.slice none 0 0,.int .i64 0,.int .i64 0,.int .i64 0,.int .i64 0,.int .i64 0,.int .i64 0,.int .i64 0,.int .i64 0])).size=9 from rfl]
   congr 1
   simp only [Nat.zero_add] at hge
   omega
theorem zmz (a:Addr) (w:World):(storeCells a []).run Tryz.prog w=.ok () w:=by simp [storeCells]
theorem zld (ty:TypeId) (base oa:Option Addr) (n cap c:Nat) (hn:n≤cap) (w:World) :
   (Builtin.append_ #[36,36] ty #[.slice base n cap,.slice oa 0 c]).run Tryz.prog w=.ok (.slice base n cap) w:=by
 obtain ⟨j0,hj,hy0,hy1,hy2⟩:=info_parts zc5
 have hf:(Builtin.firstCells j0.size 0 (.slice oa 0 c)).run Tryz.prog w=.ok #[] w:=by
   cases oa with
   | none=>exact run_firstCells_none w _ _ _ _
   | some a=>exact run_firstCells_some w j0.size 0 a 0 c [] (by simp) (fun j v h=>by simp at h)
 cases base with
 | none=>simp [Builtin.append_,run_underlying Tryz.underlying36,sizeOf,typeInfo,hj,Builtin.lenOf,hn,hf,Result.andThen]
 | some a=>simp [Builtin.append_,run_underlying Tryz.underlying36,sizeOf,typeInfo,hj,Builtin.lenOf,hn,hf,zmz,Result.andThen]
theorem zmf {w:World} {l:List Fr} {U:Nat→Value} {oa:Option Addr} {cap b o:Nat} (h:FrAt w l U oa cap b o):∀ j u,(frCs U 0 l)[j]?=some u→w.cell? ((⟨b,o,none⟩:Addr).add j)=some u:=by
 intro j u hu
 have hj:j < (frCs U 0 l).length:=(List.getElem?_eq_some_iff.1 hu).1
 rw [zdh] at hj
 obtain ⟨i,r,hr,rfl⟩:∃ i r,r < 9∧j=i * 9 + r:=⟨j / 9,j % 9,Nat.mod_lt _ (by omega),by omega⟩
 obtain ⟨f,hf⟩:∃ f,l[i]?=some f:=⟨_,List.getElem?_eq_getElem (by omega)⟩
 rw [zcz U 0 l i f hf r hr,Nat.zero_add] at hu
 have:=h.cell i f hf r u hu
 rw [← this]
 by_cases e:i * 9 + r=0
 · obtain ⟨rfl,rfl⟩:i=0∧r=0:=by omega
   simp [Addr.add]
 · simp only [Addr.add]
   first | rw [if_neg e,Nat.add_assoc] | (rw [Nat.add_assoc];split <;> first | rfl | omega) | (simp [Nat.add_assoc];intro h1 h2;omega)
theorem zmn {w:World} {l:List Fr} {U:Nat→Value} {oa:Option Addr} {cap b o:Nat} (h:FrAt w l U oa cap b o):∀ u∈frCs U 0 l,u.oneCell'=true:=by
 intro u hu
 obtain ⟨j,hj⟩:=List.getElem?_of_mem hu
 have hlt:j < (frCs U 0 l).length:=(List.getElem?_eq_some_iff.1 hj).1
 rw [zdh] at hlt
 obtain ⟨i,r,hr,rfl⟩:∃ i r,r < 9∧j=i * 9 + r:=⟨j / 9,j % 9,Nat.mod_lt _ (by omega),by omega⟩
 obtain ⟨f,hf⟩:∃ f,l[i]?=some f:=⟨_,List.getElem?_eq_getElem (by omega)⟩
 rw [zcz U 0 l i f hf r hr,Nat.zero_add] at hj
 obtain ⟨oq,cq,e⟩:=(h.ids i f hf).val
 exact oneF f (by rw [e];rfl) u (List.mem_of_getElem? hj)
theorem zj7 (ty:TypeId) {w:World} {base n:Nat} {v sv:Value} {xs:List Value} {l:List Fr} (hown:w.ownsRow base 162 9 v n xs) {U:Nat→Value} {oa:Option Addr} {cap b o:Nat} (hsv:sv=.slice oa l.length cap) (h:FrAt w l U oa cap b o)
   (hn:n + l.length≤30000) (hbase:base≤w.heap.size) :
   ∃ v' w',(Builtin.append_ #[36,36] ty #[v,sv]).run Tryz.prog w=.ok v' w'∧w'.ownsRow base 162 9 v' (n + l.length) (xs ++ frCs U 0 l)∧w.grownBy w' v.ownBlock:=by
 subst hsv
 obtain ⟨j0,hj,hy0,hy1,hy2⟩:=info_parts zc5
 by_cases h0:l.length=0
 · have e:l=[]:=List.length_eq_zero_iff.1 h0
   subst e
   obtain ⟨ov,cv,gv,e,h1,_⟩:=zaq hown
   subst e
   refine ⟨_,w,zld ty ov oa n cv cap h1 w,?_,⟨rfl,rfl,rfl,Nat.le_refl _,fun _ _ _=>rfl⟩⟩
   simpa [frCs] using hown
 · obtain ⟨rfl,hb⟩:=h.at0 (by omega)
   obtain ⟨v',w',r1,r2,r3,_⟩:=run_append_own w base 36 ty 162 j0 _ 9 88 Tryz.underlying36 hj hy0 hy1 hy2 rfl (by omega) v n xs hown ⟨b,o,none⟩ l.length cap (frCs U 0 l) (zdh U 0 l) (zmf h) (zmn h) (by unfold maxLen;omega) (by omega) hbase
   exact ⟨v',w',r1,r2,r3⟩
theorem zse {w:World} {base:Nat} {l:List Fr} {U:Nat→Value} {v:Value} (h:w.ownsRow base 162 9 v l.length (frCs U 0 l)) (hi:∀ k f,l[k]?=some f→TxW w f.ids (U k)):FrW w l v:=by
 obtain ⟨oa,cap,g,e,h1,h2,hg⟩:=zaq h
 subst e
 refine ⟨U,oa,cap,g,0,rfl,h1,h2,fun h0=>⟨(hg h0).1,(hg h0).2.2⟩,fun k f hf j u hu=>?_,hi⟩
 obtain ⟨rfl,_⟩:=hg (by have:=posA hf;omega)
 have hj:j < 9:=(List.getElem?_eq_some_iff.1 hu).1
 have hk:=posA hf
 rw [Nat.zero_add,h.cellAt (k * 9 + j) (by omega),zcz _ _ _ _ _ hf _ hj,Nat.zero_add]
 exact hu
def zeu (U V:Nat→Value) (n:Nat):Nat→Value:=fun i=>if i < n then U i else V (i - n)
theorem zpq (U V:Nat→Value) (l m:List Fr):frCs U 0 l ++ frCs V 0 m=frCs (zeu U V l.length) 0 (l ++ m):=by
 rw [zgv,Nat.zero_add]
 congr 1
 · exact ze9 fun i hi=>by simp [zeu,hi]
 · have:∀ (s t:Nat) (q:List Fr),(∀ i,i < q.length→V (t + i)=zeu U V l.length (s + i))→frCs V t q=frCs (zeu U V l.length) s q:=by
     intro s t q
     induction q generalizing s t with
     | nil=>intro _;rfl
     | cons p q ih =>
       intro h
       rw [frCs,frCs,show V t=zeu U V l.length s from h 0 (by simp),ih (s + 1) (t + 1) fun i hi=>by have:=h (i + 1) (by simp;omega);rwa [show t + (i + 1)=t + 1 + i by omega,show s + (i + 1)=s + 1 + i by omega] at this]
   exact this l.length 0 m fun i hi=>by
     unfold zeu;rw [if_neg (by omega),Nat.zero_add,Nat.add_sub_cancel_left]
structure Srcs (w:World) (L:Nat→List Fr) (V:Nat→Value) (U:Nat→Nat→Value) (bs:Nat):Prop where
 lt:bs < w.heap.size
 cell:∀ k,k < 2→w.cell? ⟨bs,k,none⟩=some (V k)
 lies:∀ k,k < 2→∃ oa cap b o,V k=.slice oa (L k).length cap∧FrAt w (L k) (U k) oa cap b o
 len:(L 0).length + (L 1).length≤20000
def totL (L:Nat→List Fr):Nat→Nat
 | 0=>0
 | k + 1=>totL L k + (L k).length
def totC (L:Nat→List Fr) (U:Nat→Nat→Value):Nat→List Value
 | 0=>[]
 | k + 1=>totC L U k ++ frCs (U k) 0 (L k)
theorem Srcs.tot {w:World} {L:Nat→List Fr} {V:Nat→Value} {U:Nat→Nat→Value} {bs:Nat} (h:Srcs w L V U bs):∀ k,k≤2→totL L k≤20000:=by
 intro k hk
 have:=h.len
 obtain rfl | rfl | rfl:k=0 ∨ k=1 ∨ k=2:=by omega
 · simp [totL]
 · simp only [totL];omega
 · simp only [totL];omega
def zx9 (L:Nat→List Fr) (w0:World) (s i:Value) (wr:World):Prop:=∃ k:Nat,k≤2∧i=.int .i64 k∧s=.int .i64 (totL L k)∧Hid (w0=wr)
def zst (L:Nat→List Fr) (U:Nat→Nat→Value) (w0:World) (v i:Value) (wr:World):Prop :=
 ∃ k:Nat,k≤2∧i=.int .i64 k∧Hid (wr.ownsRow w0.heap.size 162 9 v (totL L k) (totC L U k))∧Hid (Below w0.heap.size w0 wr)
theorem zpv (L:Nat→List Fr) (V:Nat→Value) (U:Nat→Nat→Value) (bs:Nat) (w:World) (hS:Srcs w L V U bs) :
   Calls Tryz.prog 141 #[.slice (some ⟨bs,0,none⟩) 2 2] w fun e w'=>∃ v,e=.returned v∧w'.ownsRow w.heap.size 162 9 v (totL L 2) (totC L U 2)∧Below w.heap.size w w':=by
 have HS:=y29h hS
 have G:=fun w'=>y29h (zrs (totL L 2) (HS.out.tot 2 (by omega)) w')
 clear hS
 go_enter Tryz.func141,Tryz.ntmps141
 go_wp2_with fail
 go_loopw [3,11] (fun s i wr=>zx9 L w s i wr) (fun _ i _=>2 - (intOf i).toNat)
 case atStart=>exact ⟨0,by omega,rfl,rfl,rfl⟩
 case round =>
   obtain ⟨k,hk,rfl,rfl,hw⟩:=hrel
   have ew:=hw.out
   subst ew
   clear hw
   by_cases hlt:k < 2
   · obtain ⟨oa,cap,b,o,hV,hF⟩:=HS.out.lies k hlt
     have cv:=HS.out.cell k hlt
     rw [hV] at cv
     have zb:=HS.out.lt
     have t1:=HS.out.tot k hk
     have t2:=HS.out.tot (k + 1) (by omega)
     have t3:totL L (k + 1)=totL L k + (L k).length:=rfl
     have k0:(0:Int)≤(k:Int):=by omega
     have k1:(k:Int) < 2:=by omega
     have hq:((L k).length:Int)≤20000:=by omega
     have hq0:(0:Int)≤((L k).length:Int):=by omega
     have HT:=y29h t3
     clear t2 t3 hV hF
     generalize (L k).length=m at *
     generalize ht:totL L k=t at *
     have hneg:decide (((t:Int) + (m:Int)) < 0)=false:=decide_eq_false (by omega)
     go_wp2_with fail
     go_roundw
     case rel=>exact ⟨k + 1,by omega,by go_num,by rw [HT.out];go_num,rfl⟩
     case measure=>simp [intOf];omega
   · have e:k=2:=by omega
     subst e
     go_wp2_with (go_at_call 198;refine (G _).out.mono ?_;rintro e w1 ⟨v0,rfl,hr0,hb0⟩)
     have C0:zst L U w v0 (.int .i64 0) w1:=⟨0,by omega,rfl,hr0,hb0⟩
     clear hr0 hb0
     go_loopw [6,27] (fun v i wr=>zst L U w v i wr) (fun _ i _=>2 - (intOf i).toNat)
     case atStart=>exact C0
     case round =>
       clear C0
       obtain ⟨k,hk,rfl,HR,HB⟩:=hrel
       by_cases hlt:k < 2
       · obtain ⟨oa,cap,b,o,hV,hF⟩:=HS.out.lies k hlt
         have cv:=(HB.out.cell (p:=⟨bs,k,none⟩) HS.out.lt).trans (HS.out.cell k hlt)
         rw [hV] at cv
         have zb:bs < wr.heap.size:=Nat.lt_of_lt_of_le HS.out.lt HB.out.size
         have t1:=HS.out.tot (k + 1) (by omega)
         simp only [totL] at t1
         have k0:(0:Int)≤(k:Int):=by omega
         have k1:(k:Int) < 2:=by omega
         have hF':=hF.later HB.out (Nat.le_refl _)
         have AP:=fun ty=>zj7 ty HR.out rfl hF' (by omega) HB.out.size
         have HA:=y29h AP
         obtain ⟨ov,cvv,gv,rfl,_,_,_⟩:=zaq HR.out
         clear hF hF' AP hV
         go_wp2_with (at_builtin;obtain ⟨v',w',hrun,hown,hgr⟩:=HA.out _;refine Lib.wpList_append_run _ rfl _ _ _ _ rfl _ _ rfl rfl _ _ hrun ?_)
         have HB2:=y29h (HB.out.grown hgr HB.out.size fun q hq=>(World.ownsRow.lt HR.out q hq).1)
         go_roundw
         case rel=>exact ⟨k + 1,by omega,by go_num,hown,HB2⟩
         case measure=>simp [intOf];omega
       · have e:k=2:=by omega
         subst e
         go_wp2_with fail
         go_ret
         exact ⟨_,rfl,HR.out,HB.out⟩
theorem zrl (l m:List Fr) (U0 U1:Nat→Value) (oa oa':Option Addr) (cap cap' b b' o o':Nat) (bs:Nat) (w:World) (hlt:bs < w.heap.size) (c0:w.cell? ⟨bs,0,none⟩=some (.slice oa l.length cap)) (c1:w.cell? ⟨bs,1,none⟩=some (.slice oa' m.length cap')) (h0:FrAt w l U0 oa cap b o) (h1:FrAt w m U1 oa' cap' b' o') (hlen:l.length + m.length≤20000) :
   Calls Tryz.prog 141 #[.slice (some ⟨bs,0,none⟩) 2 2] w fun e w'=>∃ u,e=.returned u∧w'.ownsRow w.heap.size 162 9 u (l ++ m).length (frCs (zeu U0 U1 l.length) 0 (l ++ m))∧Below w.heap.size w w':=by
 refine (zpv (fun k=>if k=0 then l else m) (fun k=>if k=0 then .slice oa l.length cap else .slice oa' m.length cap') (fun k=>if k=0 then U0 else U1) bs w ⟨hlt,fun k hk=>?_,fun k hk=>?_,by simpa using hlen⟩).mono ?_
 · obtain rfl | rfl:k=0 ∨ k=1:=by omega
   · simpa using c0
   · simpa using c1
 · obtain rfl | rfl:k=0 ∨ k=1:=by omega
   · exact ⟨_,_,_,_,rfl,h0⟩
   · exact ⟨_,_,_,_,rfl,h1⟩
 · rintro e w' ⟨u,rfl,hr,hb⟩
   refine ⟨u,rfl,?_,hb⟩
   simp only [totL,totC] at hr
   simp only [if_pos,List.nil_append,Nat.zero_add,show ((1:Nat)=0)=False by simp,if_false,if_true] at hr
   rw [zpq,← List.length_append] at hr
   exact hr
theorem zzu {w:World} {base:Nat} {l m:List Fr} {U0 U1:Nat→Value} {u:Value} (h:w.ownsRow base 162 9 u (l ++ m).length (frCs (zeu U0 U1 l.length) 0 (l ++ m))) (h0:∀ k f,l[k]?=some f→TxW w f.ids (U0 k)) (h1:∀ k f,m[k]?=some f→TxW w f.ids (U1 k)):FrW w (l ++ m) u:=by
 refine zse h fun k f hf=>?_
 by_cases hk:k < l.length
 · rw [List.getElem?_append_left hk] at hf
   simp only [zeu,hk,if_true]
   exact h0 k f hf
 · rw [List.getElem?_append_right (by omega)] at hf
   simp only [zeu,hk,if_false]
   exact h1 _ f hf
end Go.Proofs.YtodfhabkdaiopaaGreat
namespace Go.Proofs.YtodfhabkdaiopaaGreat
set_option linter.unusedVariables false
set_option linter.unusedSimpArgs false
set_option maxRecDepth 100000
set_option maxHeartbeats 8000000
open Go.RowKit Go.Maps
theorem zsq {A B:Nat→Int} (h:∀ j,j < 8→A j=B j):vecV A=vecV B:=by
 simp only [vecV,h 0 (by omega),h 1 (by omega),h 2 (by omega),h 3 (by omega),h 4 (by omega),h 5 (by omega),h 6 (by omega),h 7 (by omega)]
def KRel (F:ByteArray→Nat→Int) (ns:List ByteArray) (nn:Nat) (w0:World) (base bm bp nc:Nat) (X Z:Array Value) (ids:List ByteArray) (raw:ByteArray→Nat→Int) (nv:Value) (lv iv:Value) (wr:World):Prop :=
 ∃ (k:Nat) (U:Nat→Value),k≤nn∧iv=.int .i64 k∧Hid (KP w0 base bm bp nc X Z ids raw ns nv ((grpF F (ns.take k)).map (·.v)) (grpF F (ns.take k)) U lv wr)
theorem zfk (K:Kn) (v:Value) (w:World) (hR:FrW w K.l v) (hlen:(zaf K.l).length≤10000) :
   Calls Tryz.prog 142 #[knV K.star v] w fun e w'=>∃ v',e=.returned (knV K.star v')∧FrOwn w' w.heap.size (zah K).l v'∧Below w.heap.size w w':=by
 have hN:=fun w' (hb:Below w.heap.size w w')=>zls K.l v w' (hR.later hb (Nat.le_refl _)) hlen
 have HNL:=y29h (show (zbf K).length≤10000 from Nat.le_trans (ziu _) hlen)
 have HOK:Hid (∀ s∈zbf K,s.size≤maxLen):=by
   obtain ⟨U,oa,cap,b,o,_,hr⟩:=hR
   exact fun s hs=>fr_ok hr s (mem_all.1 hs)
 obtain ⟨ov,cv,rfl⟩:=hR.val
 have HP:=y29h (show (zah K).l=grpF (beyB K) (zbf K) from rfl)
 have HBZ:=y29h (show ∀ id,vecV (bzV (rawF K.l id) K.star)=vecV (beyB K id) from fun id=>zsq fun j hj=>by unfold bzV beyB;rw [if_pos hj])
 obtain ⟨A,l⟩:=K
 simp only at *
 generalize (zah ⟨A,l⟩).l=res at *
 have hbx:Below w.heap.size w ((w.alloc (.cells (knA A (.slice ov l.length cv)) 38)).alloc (.cells (knA zad (.slice none 0 0)) 38)) :=
   ((Below.refl _ _).alloc (Nat.le_refl _) _).alloc (by simp) _
 have N:=y29h (hN _ hbx)
 have hrise:=y29h (zj5 (zaf l))
 have hmem:=y29h (fun s:ByteArray=>(mem_all (l:=zaf l) (x:=s)).symm)
 have e:zbf ⟨A,l⟩=zbu (zaf l):=rfl
 rw [e] at HP HNL HOK
 clear e
 generalize zbu (zaf l)=ns at *
 have I1:=y29h (show Own _ _ _ _∧Own _ _ _ _∧Below _ _ _ from ⟨(Own.new w (knA A (.slice ov l.length cv)) 38).alloc (.cells (knA zad (.slice none 0 0)) 38),Own.newAt (w.alloc (.cells (knA A (.slice ov l.length cv)) 38)) (knA zad (.slice none 0 0)) 38 (b:=w.heap.size + 1) (by simp),hbx⟩)
 have hsz2:((w.alloc (.cells (knA A (.slice ov l.length cv)) 38)).alloc (.cells (knA zad (.slice none 0 0)) 38)).heap.size=w.heap.size + 2:=by simp
 rw [hsz2] at N
 have HZ2:=y29h hsz2
 clear hbx hN hsz2
 have hmm:=@run_makeMap Tryz.prog
 go_enter Tryz.func142,Tryz.ntmps142
 go_wp2_with (first
   | (go_at_call 199;refine N.out.mono ?_;rintro e w3 ⟨rfl,hcnt,hb3⟩)
   | (go_at_call 201;have hc4:=y29h (hcnt.later ((Below.refl w3.heap.size w3).alloc (Nat.le_refl _) (.map #[] 0)));refine (z1p (some (w.heap.size + 2)) (w3.alloc (.map #[] 0)) (w3.heap.size + 1) (by simp)).mono ?_;rintro e w4 ⟨rfl,rfl⟩)
   | (go_at_call 200;refine (zzb hc4.out ns hrise.out hmem.out HNL.out (w3.heap.size + 1) (by simp)).mono ?_;rintro e w5 ⟨nv,rfl,hnv,hb5⟩;obtain ⟨on,cn,gn,rfl,hn1,hn2,hn3⟩:=zaq hnv)
   | fail)
 have e4:((w3.alloc (.map #[] 0)).alloc (.cells #[.map (some (w.heap.size + 2))] 230)).heap.size=w3.heap.size + 1 + 1:=by simp
 have hb5':=hb5
 rw [← e4] at hb5'
 have hs3:=hcnt.lt
 have hs5:=hb5.size
 rw [e4] at hs5
 have S0:=y29h (show KP w w5.heap.size (w.heap.size + 2) w3.heap.size _ (knA A (.slice ov l.length cv)) (knA zad (.slice none 0 0)) (zaf l) (rawF l) ns (.slice on ns.length cn) [] [] (fun _=>.slice none 0 0) (.slice none 0 0) w5 from
   ⟨((((I1.out.1.below hb3 (by omega)).alloc _).alloc _).later hb5'),((((I1.out.2.1.below hb3 (by omega)).alloc _).alloc _).later hb5'),(hc4.out.later ((Below.refl _ _).alloc (Nat.le_refl _) _)).later hb5',((Pcs.made w3).later ((Below.refl _ _).alloc (Nat.le_refl _) _)).later hb5',hnv.mono (by omega),fun b hb=>(World.ownsRow.lt hnv b hb).2,PK.nil _ _ _,
     ((((I1.out.2.2.trans (hb3.mono (by omega))).alloc (by omega) _).alloc (by simp;omega) _).trans (hb5.mono (by omega))),by omega,⟨by omega,by omega⟩,by omega,Nat.le_refl _⟩)
 have hcap:=hn1
 have hmax:=hn2
 unfold maxLen at hmax
 have HN3:=y29h hn3
 clear hnv hb5 hb5' hb3 hcnt hc4 I1 N hn1 hn2 hn3 hR e4 hs3 hs5 HZ2 hmem hrise
 generalize w5.heap.size=base at *
 generalize w3.heap.size=bp at *
 generalize hF:beyB ⟨A,l⟩=F at *
 generalize hbm:w.heap.size + 2=bm at *
 generalize hnn:ns.length=nn at *
 have HNN:=y29h hnn
 clear hnn hF hbm
 go_wp2_with fail
 go_loopw [5,19] (fun lv iv wr=>KRel F ns nn w base bm bp (zaf l).length (knA A (.slice ov l.length cv)) (knA zad (.slice none 0 0)) (zaf l) (rawF l) (.slice on nn cn) lv iv wr) (fun _ iv _=>nn - (intOf iv).toNat)
 case atStart=>exact ⟨0,_,Nat.zero_le _,rfl,by simpa [grpF] using S0⟩
 case round =>
   clear S0
   obtain ⟨k,U,hk,rfl,HS⟩:=hrel
   by_cases hlt:k < nn
   · obtain ⟨id,hid⟩:∃ id,ns[k]?=some id:=⟨_,List.getElem?_eq_getElem (by rw [HNN.out];exact hlt)⟩
     obtain ⟨rfl,hgn⟩:=HN3.out (by omega)
     have c0:wr.cell? ⟨gn,k,none⟩=some (.string id):=by
       have h:=HS.out.nm
       unfold OwnT at h
       rw [HNN.out] at h
       rw [h.cellAt k (by omega)]
       simp [txC,hid]
     have zg:gn < wr.heap.size:=(World.ownsRow.lt HS.out.nm gn rfl).2
     have hsz:=HOK.out id (List.mem_of_getElem? hid)
     have HG:=y29h (zod (F:=F) hid)
     have HK:=y29h (Nat.le_trans (zlt F (ns.take k) []) (show [].length + (ns.take k).length≤k by rw [List.length_take];simp;omega))
     have HOL:(grpF F (ns.take k)).length≤k:=HK.out
     have HIDL:=y29h (show ∀ f∈grpF F (ns.take k),f.ids.length≤10000 from fun f hf=>by
       have h1:=zmj (F:=F) (ns.take k) [] 0 (fun g hg=>by simp at hg) f hf
       rw [List.length_take] at h1
       have:=HNL.out;have:=HNN.out
       omega)
     have HID:=y29h hid
     clear hid HK
     generalize grpF F (ns.take k)=o at *
     have hlk:=HS.out.cnt.look hsz
     have l1:=HS.out.o1.cell
     have z1:=HS.out.o1.lt
     have CB:∀ w',Hid (Calls Tryz.prog 202 #[vecV (rawF l id),vecV A] w' fun e w''=>e=.returned (vecV (F id))∧Below w'.heap.size w' w''):=fun w'=>y29h (by rw [← HBZ.out id];exact zjp (rawF l id) A w')
     have HSZ:=y29h hsz
     obtain ⟨oL,cL,gL,rfl,hL1,hL2,hL3⟩:=zaq HS.out.pk.row
     have HL3:=y29h hL3
     unfold maxLen at hL2
     generalize hno:o.length=no at *
     have HNO:=y29h hno
     clear hno hsz hL3
     go_upto_region 8 with (go_at_call 202;refine (CB _).out.mono ?_;rintro e w7 ⟨rfl,hb7⟩)
     have HV:=y29h (Own.new w7 (arr8 (F id)) 35)
     have HQ:=y29h ((HS.out.later hb7).alloc (.cells (arr8 (F id)) 35))
     have hbv:=y29h (Nat.le_trans HS.out.hw hb7.size)
     clear HS hlk l1 z1 CB c0 zg hb7
     generalize w7.heap.size=bv at *
     generalize w7.alloc (.cells (arr8 (F id)) 35)=wq at *
     have lv:=HV.out.cell
     have zv:=HV.out.lt
     have hz:=fun w'=>show (Op.equalIn 10000 35 (.agg #[.int .i64 (F id 0),.int .i64 (F id 1),.int .i64 (F id 2),.int .i64 (F id 3),.int .i64 (F id 4),.int .i64 (F id 5),.int .i64 (F id 6),.int .i64 (F id 7)]) (.agg #[.int .i64 0,.int .i64 0,.int .i64 0,.int .i64 0,.int .i64 0,.int .i64 0,.int .i64 0,.int .i64 0])).run Tryz.prog w'=.ok (eqV (F id) zad) w' from zgf (F id) zad w'
     cases hzz:eqV (F id) zad
     · rw [hzz] at hz
       have HG2:=y29h (show grpF F (ns.take (k + 1))=putF (F id) id o by rw [HG.out];unfold zaw;rw [if_neg (by rw [hzz];simp)])
       clear HG hzz
       go_upto_region 9 with fail
       go_cut [9,10] (fun s9 s10 wx=>∃ (a:Int) (b:Bool),s9=.int .i64 a∧s10=.bool b∧Hid (wq=wx)∧Hid ((b=true∧∃ (i:Nat) (f:Fr),a=i∧o[i]?=some f∧putF (F id) id o=o.set i ⟨f.ids ++ [id],f.v⟩) ∨ (b=false∧∀ (j:Nat) (g:Fr),j < o.length→o[j]?=some g→eqV g.v (F id)=false)))
       case first =>
         rcases zn6 (F id) o with ⟨a,f,hf,hn,he⟩ | hn
         · have hit:=HQ.out.pcs.hit (zjg hf hn he).1 (zjg hf hn he).2
           have hit:(Instr.lookup 232 (.map (some bp)) (.agg #[.int .i64 (F id 0),.int .i64 (F id 1),.int .i64 (F id 2),.int .i64 (F id 3),.int .i64 (F id 4),.int .i64 (F id 5),.int .i64 (F id 6),.int .i64 (F id 7)]) true).run Tryz.prog wq=.ok (.tuple #[.int .i64 a,.bool true]) wq:=hit
           have HPE:=y29h (zo1 (id:=id) hf hn he)
           have HF:=y29h hf
           clear hf hn he hz
           go_wp2_with fail
           go_meet
           exact ⟨a,true,rfl,rfl,y29h rfl,y29h (.inl ⟨rfl,a,f,rfl,HF.out,HPE.out⟩)⟩
         · have miss:=HQ.out.pcs.miss (zh9 hn)
           have miss:(Instr.lookup 232 (.map (some bp)) (.agg #[.int .i64 (F id 0),.int .i64 (F id 1),.int .i64 (F id 2),.int .i64 (F id 3),.int .i64 (F id 4),.int .i64 (F id 5),.int .i64 (F id 6),.int .i64 (F id 7)]) true).run Tryz.prog wq=.ok (.tuple #[.int .i64 0,.bool false]) wq:=miss
           have HN0:=y29h hn
           clear hn hz
           go_wp2_with fail
           go_meet
           exact ⟨0,false,rfl,rfl,y29h rfl,y29h (.inr ⟨rfl,HN0.out⟩)⟩
       case rest =>
         obtain ⟨ai,bi,rfl,rfl,hwx,HB⟩:=hcut
         have ewx:=hwx.out
         subst ewx
         clear hwx
         go_upto_if 39 with fail
         go_cut [5,9] (fun s5 s9 wx=>∃ (a no' gL' cL':Nat),s5=.slice (some ⟨gL',0,none⟩) no' cL'∧s9=.int .i64 a∧Hid (∃ (o':List Fr) (U':Nat→Value) (f:Fr),o'.length=no'∧KP w base bm bp (zaf l).length (knA A (.slice ov l.length cv)) (knA zad (.slice none 0 0)) (zaf l) (rawF l) ns (.slice (some ⟨gn,0,none⟩) nn cn) (o'.map (·.v)) o' U' (.slice (some ⟨gL',0,none⟩) no' cL') wx∧o'[a]?=some f∧f.ids.length≤10000∧putF (F id) id o=o'.set a ⟨f.ids ++ [id],f.v⟩))
         case first =>
           rcases HB.out with ⟨rfl,a,f,rfl,hf,hpe⟩ | ⟨rfl,hn⟩
           · have HPE:=y29h hpe
             have HF:=y29h hf
             have hlt2:a < no:=by have:=posA hf;rw [HNO.out] at this;exact this
             obtain ⟨rfl,hgL⟩:=HL3.out (by omega)
             clear hf hpe hz
             go_wp2_with fail
             go_meet
             exact ⟨a,no,gL,cL,rfl,rfl,y29h ⟨o,U,f,HNO.out,HQ.out,HF.out,HIDL.out f (List.mem_of_getElem? HF.out),HPE.out⟩⟩
           · have HPE:=y29h (zl1 (v:=F id) (id:=id) (o:=o) hn)
             obtain ⟨w8,hput,hp8,hg8⟩:=HQ.out.pcs.put (zh9 hn)
             rw [List.length_map,HNO.out] at hput
             have hput:(Instr.mapUpdate 232 (.map (some bp)) (.agg #[.int .i64 (F id 0),.int .i64 (F id 1),.int .i64 (F id 2),.int .i64 (F id 3),.int .i64 (F id 4),.int .i64 (F id 5),.int .i64 (F id 6),.int .i64 (F id 7)]) (.int .i64 (no:Int))).run Tryz.prog wq=.ok () w8:=hput
             have H8:=y29h (HQ.out.put hp8 hg8)
             have V8:=HV.out.grown hg8 (by simp only [ne_eq,Option.some.injEq];have:=HQ.out.hp;have:=hbv.out;omega)
             have lv8:=V8.cell
             have zv8:=V8.lt
             clear hn hz hp8 hg8 V8
             have HSA:=y29h (H8.out.alloc (.cells #[.slice none 0 0,.int .i64 (F id 0),.int .i64 (F id 1),.int .i64 (F id 2),.int .i64 (F id 3),.int .i64 (F id 4),.int .i64 (F id 5),.int .i64 (F id 6),.int .i64 (F id 7)] 162))
             have hown:(w8.alloc (.cells #[.slice none 0 0,.int .i64 (F id 0),.int .i64 (F id 1),.int .i64 (F id 2),.int .i64 (F id 3),.int .i64 (F id 4),.int .i64 (F id 5),.int .i64 (F id 6),.int .i64 (F id 7)] 162)).ownsRow base 162 9 (.slice oL no cL) no (frCs U 0 o):=by
               have h:=HSA.out.pk.row
               rw [HNO.out] at h
               exact h
             obtain ⟨j0,hj,hy0,hy1,hy2⟩:=info_parts zc5
             have hnl:=HNL.out
             have hnn2:=HNN.out
             have t1:base≤(w8.alloc (.cells #[.slice none 0 0,.int .i64 (F id 0),.int .i64 (F id 1),.int .i64 (F id 2),.int .i64 (F id 3),.int .i64 (F id 4),.int .i64 (F id 5),.int .i64 (F id 6),.int .i64 (F id 7)] 162)).heap.size:=by have:=H8.out.hw;simp;omega
             have t2:(w8.alloc (.cells #[.slice none 0 0,.int .i64 (F id 0),.int .i64 (F id 1),.int .i64 (F id 2),.int .i64 (F id 3),.int .i64 (F id 4),.int .i64 (F id 5),.int .i64 (F id 6),.int .i64 (F id 7)] 162)).heap.size=w8.heap.size + 1:=by simp
             have t3:no + 1≤maxLen:=by unfold maxLen;omega
             have t4:(no + 1) * 88≤140737488355328:=by omega
             clear hnn2
             go_upto_region 13 with fail
             go_wp2_with (at_builtin;refine wpList_append_lies _ (by rfl) _ _ _ (by rfl) base 162 j0 _ 9 88 Tryz.underlying36 hj hy0 hy1 hy2 rfl (by omega) (.slice oL no cL) no (frCs U 0 o) (by rfl) hown ⟨w8.heap.size,0,none⟩ 1 1 (fc ⟨[],F id⟩ (.slice none 0 0)) (by rfl) (by rfl) zx0 (oneF _ rfl) (by omega) t3 t4 t1 (w8.heap.size + 1) t2 ?_;intro g cap' w9 hown9 hgrow hat9 hlt9;have R:=HSA.out.addF (F id) (by rw [HNO.out]) hown9 hgrow)
             go_meet
             exact ⟨no,no + 1,g,cap',rfl,rfl,y29h ⟨o ++ [(⟨[],F id⟩:Fr)],_,⟨[],F id⟩,by simp [HNO.out],by rw [List.map_append];exact R,by rw [← HNO.out];simp,by simp,by rw [HPE.out,HNO.out]⟩⟩
         case rest =>
           clear HB HQ HV hbv hz lv zv HL3 hL1 hL2 HIDL HNO
           obtain ⟨a,no',gL',cL',rfl,rfl,HC⟩:=hcut
           obtain ⟨o',U',f,hno',hs,hf,hil,hpe⟩:=HC.out
           clear HC
           generalize wc=wq at *
           have HQ:=y29h hs
           have HF:=y29h hf
           have HGK:=y29h (show grpF F (ns.take (k + 1))=o'.set a ⟨f.ids ++ [id],f.v⟩ by rw [HG2.out,hpe])
           have hlt3:a < no':=by have:=posA hf;omega
           have HNO:=y29h hno'
           clear hs hf hpe HG2 hno'
           have hUT:=HQ.out.pk.ids a f HF.out
           obtain ⟨oU,cU,gU,hUa,hU1,hU2,hU3⟩:=zaq hUT
           obtain ⟨d0,_⟩:=zb6 (w:=wq) (o:=a * 9) (HQ.out.pk.at HF.out)
           rw [hUa] at d0
           have hown:(wq.alloc (.cells #[.string id] 9)).ownsRow base 9 1 (.slice oU f.ids.length cU) f.ids.length (txC f.ids):=by
             have h:=OwnT.alloc hUT (.cells #[.string id] 9)
             rw [hUa] at h
             exact h
           have HUA:=y29h hUa
           have zL7:gL' < wq.heap.size:=(World.ownsRow.lt HQ.out.pk.row gL' rfl).2
           have hidl:(f.ids.length + 1) * 16≤140737488355328:=by omega
           obtain ⟨i0,hi,hz0,hz1,hz2⟩:=info_parts zfy
           have HSA:=y29h (HQ.out.alloc (.cells #[.string id] 9))
           have t1:base≤(wq.alloc (.cells #[.string id] 9)).heap.size:=by have:=HQ.out.hw;simp;omega
           have t2:(wq.alloc (.cells #[.string id] 9)).heap.size=wq.heap.size + 1:=by simp
           have t3:f.ids.length + 1≤maxLen:=by unfold maxLen;omega
           have hsl:no'≤cL':=by
             obtain ⟨oq,cq,gq,eq,h1,_⟩:=zaq HQ.out.pk.row
             rw [HNO.out] at eq h1
             cases eq;exact h1
           clear hUa hUT hU1 hU2 hU3 HQ hil
           go_wp2_with (at_builtin;refine wpList_append_lies _ (by rfl) _ _ _ (by rfl) base 9 i0 _ 1 16 Tryz.underlying160 hi hz0 hz1 hz2 rfl (by omega) (.slice oU f.ids.length cU) f.ids.length (txC f.ids) (by rfl) hown ⟨wq.heap.size,0,none⟩ 1 1 [.string id] (by rfl) (by rfl) (zfe (w:=wq)) (oneT id) (by omega) t3 hidl t1 (wq.heap.size + 1) t2 ?_;intro g cap' w3 hown3 hgrow hat3 hlt3;have R:=y29h (HSA.out.addT HF.out id rfl hown3 (by rw [HUA.out];exact hgrow) (by rw [HUA.out];simpa using hat3));have rw3:=World.ownsRow.kept HSA.out.pk.row hgrow (by rw [← HUA.out];exact zcd HSA.out.pk.row (HSA.out.pk.ids a f HF.out) (fun e=>zfw e.symm));have cw3:=zqr rw3 HF.out;have fw3:=zha rw3 (a * 9);clear rw3 hown3 hgrow hat3)
           go_roundw
           case rel=>exact ⟨k + 1,_,by omega,by go_num,y29h (by rw [HGK.out,zt9 (f':=⟨f.ids ++ [id],f.v⟩) HF.out rfl];exact R.out)⟩
           case measure=>simp [intOf];omega
     · rw [hzz] at hz
       have HG2:=y29h (show grpF F (ns.take (k + 1))=o by rw [HG.out];unfold zaw;rw [if_pos hzz])
       clear HG hzz
       have HQ2:=y29h (show KP w base bm bp (zaf l).length (knA A (.slice ov l.length cv)) (knA zad (.slice none 0 0)) (zaf l) (rawF l) ns (.slice (some ⟨gn,0,none⟩) nn cn) ((grpF F (ns.take (k + 1))).map (·.v)) (grpF F (ns.take (k + 1))) U (.slice oL no cL) wq by rw [HG2.out];exact HQ.out)
       go_wp2_with fail
       go_roundw
       case rel=>exact ⟨k + 1,U,by omega,by go_num,HQ2⟩
       case measure=>simp [intOf];omega
   · have e:nn=k:=by omega
     subst e
     have h1:=HS.out
     rw [show ns.take nn=ns from List.take_of_length_le (by rw [HNN.out];omega)] at h1
     have hfr:=kp9o h1 (fun f hf s hs=>HOK.out s (by
       rcases zqt (F:=F) ns [] ⟨f,hf,hs⟩ with h | ⟨g,hg,_⟩
       · exact h
       · simp at hg))
     rw [← HP.out] at hfr
     obtain ⟨oL,cL,gL,rfl,hL1,hL2,hL3⟩:=zaq h1.pk.row
     have l1:=h1.o1.cell
     have z1:=h1.o1.lt
     have l2:=h1.o2.cell
     have f2:=h1.o2.free
     have z2:=h1.o2.lt
     have key:=And.intro (zcg h1.o2 (.int .i64 (A 0)) (.int .i64 (A 1)) (.int .i64 (A 2)) (.int .i64 (A 3)) (.int .i64 (A 4)) (.int .i64 (A 5)) (.int .i64 (A 6)) (.int .i64 (A 7)) (.slice oL (grpF F ns).length cL)) (And.intro (zbp (b:=w.heap.size + 1) h1.bel (by omega) (.int .i64 (A 0)) (.int .i64 (A 1)) (.int .i64 (A 2)) (.int .i64 (A 3)) (.int .i64 (A 4)) (.int .i64 (A 5)) (.int .i64 (A 6)) (.int .i64 (A 7)) (.slice oL (grpF F ns).length cL)) (hfr (.int .i64 (A 0)) (.int .i64 (A 1)) (.int .i64 (A 2)) (.int .i64 (A 3)) (.int .i64 (A 4)) (.int .i64 (A 5)) (.int .i64 (A 6)) (.int .i64 (A 7)) (.slice oL (grpF F ns).length cL)))
     have KEY:=y29h key
     clear key hfr h1 hL1 hL2 hL3 HS HP
     generalize (grpF F ns).length=nr at *
     go_wp2_with fail
     clear l2 f2 z2 l1 z1
     have key:=KEY.out
     unfold st9 st8 at key
     revert key
     generalize World.setCell (World.setCell (World.setCell (World.setCell (World.setCell (World.setCell (World.setCell (World.setCell (World.setCell _ _ _) _ _) _ _) _ _) _ _) _ _) _ _) _ _) _ _=WW
     rintro ⟨of,bf,ff⟩
     have lf:=of.cell
     refine bodyPost_ret (v:=knV A (.slice oL nr cL)) (by simp [results,Tryz.results142,go_sem,lf]) rfl ⟨_,rfl,ff,bf⟩
theorem zft (K:Kn) (v:Value) (w:World) (hR:FrW w K.l v) (hlen:(zaf K.l).length≤10000) :
   Calls Tryz.prog 142 #[knV K.star v] w fun e w'=>∃ v',e=.returned (knV K.star v')∧FrFresh w' w.heap.size (zah K).l v'∧Below w.heap.size w w' :=
 (zfk K v w hR hlen).mono fun _ _ ⟨v',he,hf,hb⟩=>⟨v',he,hf.fresh,hb⟩
end Go.Proofs.YtodfhabkdaiopaaGreat
namespace Go.Proofs.YtodfhabkdaiopaaGreat
set_option linter.unusedVariables false
set_option linter.unusedSimpArgs false
set_option maxRecDepth 100000
set_option maxHeartbeats 8000000
open Go.RowKit
abbrev frV (f:Fr) (u:Value):Value:=.agg #[u,.int .i64 (f.v 0),.int .i64 (f.v 1),.int .i64 (f.v 2),.int .i64 (f.v 3),.int .i64 (f.v 4),.int .i64 (f.v 5),.int .i64 (f.v 6),.int .i64 (f.v 7)]
theorem zsx {P:Fr→Bool} {l:List Fr} {k:Nat} {f:Fr} (hf:l[k]?=some f) (h:(l.take k).any P=false) (hs:P f=false):(l.take (k + 1)).any P=false:=by
 rw [zej hf,List.any_append,h];simp [hs]
theorem zvd {P:Fr→Bool} {l:List Fr} {k:Nat} {f:Fr} (hf:l[k]?=some f) (hs:P f=true):l.any P=true:=List.any_eq_true.2 ⟨f,List.mem_of_getElem? hf,hs⟩
def z0y (P:Fr→Bool) (l:List Fr) (n:Nat) (w0:World) (i:Value) (wr:World):Prop:=∃ k:Nat,k≤n∧i=.int .i64 k∧Hid ((l.take k).any P=false)∧Hid (Below w0.heap.size w0 wr)
theorem zof (P:Fr→Bool) (l:List Fr) (v:Value) (bx bi:Nat) (w:World) (hR:FrW w l v) (C:∀ w',Below w.heap.size w w'→∀ (k:Nat) (f:Fr) (u:Value),l[k]?=some f→TxW w' f.ids u→Calls Tryz.prog 125 #[frV f u,.pointer (some ⟨bx,0,none⟩),.pointer (some ⟨bi,0,none⟩)] w' fun e w''=>e=.returned (.bool (P f))∧Below w'.heap.size w' w'') :
   Calls Tryz.prog 182 #[v,.func (Fn.func 125) #[] #[.pointer (some ⟨bx,0,none⟩),.pointer (some ⟨bi,0,none⟩)]] w fun e w'=>∃ n:Int,e=.returned (.int .i64 n)∧decide (0≤n)=l.any P∧Below w.heap.size w w':=by
 obtain ⟨U,oa,cap,b,o,rfl,hF⟩:=hR
 have h1:=hF.len
 have h2:=hF.max
 unfold maxLen at h2
 have HF:=y29h hF
 have HC:=y29h C
 clear hF C
 generalize hn:l.length=n at *
 have HN:=y29h hn
 clear hn
 go_enter Tryz.func182,Tryz.ntmps182
 go_wp2_with fail
 go_loopw [8] (fun i wr=>z0y P l n w i wr) (fun i _=>n - (intOf i).toNat)
 case atStart=>exact ⟨0,Nat.zero_le _,rfl,by simp [Hid],y29h (Below.refl _ _)⟩
 case round =>
   obtain ⟨k,hk,rfl,HS,HB⟩:=hrel
   by_cases hlt:k < n
   · obtain ⟨f,hf⟩:∃ f,l[k]?=some f:=⟨_,List.getElem?_eq_getElem (by rw [HN.out];exact hlt)⟩
     obtain ⟨rfl,hb⟩:=HF.out.at0 (by rw [HN.out];omega)
     have FL:=HF.out.later HB.out (Nat.le_refl _)
     obtain ⟨c0,c1,c2,c3,c4,c5,c6,c7,c8⟩:=zb6 (w:=wr) (fun j u hu=>FL.cell k f hf j u hu)
     have zb:b < wr.heap.size:=Nat.lt_of_lt_of_le hb HB.out.size
     have CC:=y29h (HC.out wr HB.out k f (U k) hf (FL.ids k f hf))
     have HX:=y29h hf
     obtain ⟨ou,cu,hU⟩:=(HF.out.ids k f hf).val
     rw [hU] at c0 CC
     clear FL hf hU
     cases hs:P f
     · rw [hs] at CC
       have HY:=y29h (zsx HX.out HS.out hs)
       clear HS
       go_wp2_with (go_at_call 125;refine CC.out.mono ?_;rintro e w' ⟨rfl,hb'⟩)
       go_roundw
       case rel=>exact ⟨k + 1,by omega,by go_num,HY,y29h (HB.out.trans (hb'.mono HB.out.size))⟩
       case measure=>simp [intOf];omega
     · rw [hs] at CC
       have HY:=y29h (zvd HX.out hs)
       clear HS
       go_wp2_with (go_at_call 125;refine CC.out.mono ?_;rintro e w' ⟨rfl,hb'⟩)
       go_ret
       exact ⟨_,rfl,by rw [HY.out];simp,HB.out.trans (hb'.mono HB.out.size)⟩
   · have h:=HS.out
     rw [List.take_of_length_le (by rw [HN.out];omega)] at h
     have HY:=y29h h
     clear h HS
     go_wp2_with fail
     go_ret
     exact ⟨_,rfl,by rw [HY.out];simp,HB.out⟩
theorem zkk (P:Fr→Bool) (l:List Fr) (v:Value) (bx bi:Nat) (w:World) (hR:FrW w l v) (C:∀ w',Below w.heap.size w w'→∀ (k:Nat) (f:Fr) (u:Value),l[k]?=some f→TxW w' f.ids u→Calls Tryz.prog 125 #[frV f u,.pointer (some ⟨bx,0,none⟩),.pointer (some ⟨bi,0,none⟩)] w' fun e w''=>e=.returned (.bool (P f))∧Below w'.heap.size w' w'') :
   Calls Tryz.prog 124 #[v,.func (Fn.func 125) #[] #[.pointer (some ⟨bx,0,none⟩),.pointer (some ⟨bi,0,none⟩)]] w fun e w'=>e=.returned (.bool (l.any P))∧Below w.heap.size w w':=by
 have D:=y29h (zof P l v bx bi w hR C)
 obtain ⟨oa,cap,rfl⟩:=hR.val
 clear hR C
 go_enter Tryz.func124,Tryz.ntmps124
 go_wp2_with (go_at_call 182;refine D.out.mono ?_;rintro e w' ⟨n,rfl,hn,hb⟩)
 go_ret
 first | exact ⟨zac hn,hb⟩ | exact ⟨rfl,hb⟩
theorem zrt (f:Fr) (u:Value) (r c:Int) (id:ByteArray) (bx bi:Nat) (w:World) (hT:TxW w f.ids u) (hx:Own w bx #[.int .i64 r,.int .i64 c] 52) (hi:Own w bi #[.string id] 9) :
   Calls Tryz.prog 125 #[frV f u,.pointer (some ⟨bx,0,none⟩),.pointer (some ⟨bi,0,none⟩)] w fun e w'=>e=.returned (.bool (zdb id r c f))∧Below w.heap.size w w':=by
 obtain ⟨ou,cu,rfl⟩:=hT.val
 have B0:Below w.heap.size w (w.alloc (.cells #[.slice ou f.ids.length cu,.int .i64 (f.v 0),.int .i64 (f.v 1),.int .i64 (f.v 2),.int .i64 (f.v 3),.int .i64 (f.v 4),.int .i64 (f.v 5),.int .i64 (f.v 6),.int .i64 (f.v 7)] 162)):=(Below.refl _ _).alloc (Nat.le_refl _) _
 have G1:=y29h (Own.new w #[.slice ou f.ids.length cu,.int .i64 (f.v 0),.int .i64 (f.v 1),.int .i64 (f.v 2),.int .i64 (f.v 3),.int .i64 (f.v 4),.int .i64 (f.v 5),.int .i64 (f.v 6),.int .i64 (f.v 7)] 162)
 have lx:=(hx.later B0).cell
 have zx:=(hx.later B0).lt
 have l1:=G1.out.cell
 have z1:=G1.out.lt
 have CH:=y29h (zip f.v r c (w.alloc (.cells #[.slice ou f.ids.length cu,.int .i64 (f.v 0),.int .i64 (f.v 1),.int .i64 (f.v 2),.int .i64 (f.v 3),.int .i64 (f.v 4),.int .i64 (f.v 5),.int .i64 (f.v 6),.int .i64 (f.v 7)] 162)))
 have HB0:=y29h B0
 have HI:=y29h (hi.later B0)
 have HT:=y29h (hT.later B0 (Nat.le_refl _))
 have e:zdb id r c f=(hasV f.v r c && za6 f.ids id):=by unfold zdb;rw [Bool.and_comm]
 rw [e]
 clear e B0 hT hx hi
 cases hh:hasV f.v r c
 · rw [hh] at CH
   go_enter Tryz.func125,Tryz.ntmps125
   go_wp2_with (go_at_call 123;refine CH.out.mono ?_;rintro e w3 ⟨rfl,hb3⟩)
   go_ret
   exact ⟨rfl,HB0.out.trans (hb3.mono HB0.out.size)⟩
 · rw [hh] at CH
   rw [Bool.true_and]
   go_enter Tryz.func125,Tryz.ntmps125
   go_wp2_with (first
     | (go_at_call 123;refine CH.out.mono ?_;rintro e w3 ⟨rfl,hb3⟩;have l13:=(G1.out.later hb3).cell;have z13:=(G1.out.later hb3).lt;have li3:=(HI.out.later hb3).cell;have zi3:=(HI.out.later hb3).lt;have HT3:=y29h (zkl f.ids _ id w3 (HT.out.later hb3 (Nat.le_refl _))))
     | (go_at_call 126;refine HT3.out.mono ?_;rintro e w4 ⟨rfl,rfl⟩)
     | fail)
   go_ret
   exact ⟨rfl,HB0.out.trans (hb3.mono HB0.out.size)⟩
end Go.Proofs.YtodfhabkdaiopaaGreat
