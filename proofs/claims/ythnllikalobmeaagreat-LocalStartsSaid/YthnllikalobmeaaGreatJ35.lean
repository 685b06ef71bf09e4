/- Joined: KConc, KText, KFrag, KCodeA. -/
import Derived.Test.YthnllikalobmeaaGreatJ11
import Derived.Shelf.Spec.SlicesGrow
import Derived.Lib.AppendZeros
import Derived.Test.YthnllikalobmeaaGreatJ08
import Derived.Test.YthnllikalobmeaaGreatJ09
import Derived.Test.YthnllikalobmeaaGreatJ06
import Derived.Test.YthnllikalobmeaaGreatJ33
import Derived.Test.YthnllikalobmeaaGreatJ02
import Derived.Test.YthnllikalobmeaaGreatJ03
import Derived.Test.YthnllikalobmeaaGreatJ12
import Derived.Test.YthnllikalobmeaaGreatJ34
namespace Go.Proofs.YthnllikalobmeaaGreat
set_option linter.unusedVariables false
set_option linter.unusedSimpArgs false
set_option maxRecDepth 100000
set_option maxHeartbeats 8000000
open Go.RowKit
theorem y35h {p:Prop} (h:p):Hid p:=Lib.hid h
def growA_ren:Go.Shelf.Ren:=⟨fun | 4=>171 | n=>n,
 fun | 22=>29 | 25=>105 | 3=>3 | 4=>4 | 9=>9 | 20=>20 | 0=>0 | n=>n,
 fun | n=>n⟩
theorem zyd:Go.Proofs.Lays8.n4 Tryz.prog growA_ren:={
 mixed:=by kernel_rfl,
 f4:=⟨Tryz.f171.name,by decide,Tryz.func171.trans (congrArg some (by kernel_rfl))⟩,
 t0:=Tryz.underlying0,
 a0:=Tryz.isAgg0,
 z0:=Tryz.sizeOf0,
 v0:=Tryz.zeroValue0,
 t3:=Tryz.underlying3,
 a3:=Tryz.isAgg3,
 z3:=Tryz.sizeOf3,
 v3:=Tryz.zeroValue3,
 t4:=Tryz.underlying4,
 a4:=Tryz.isAgg4,
 z4:=Tryz.sizeOf4,
 v4:=Tryz.zeroValue4,
 t9:=Tryz.underlying9,
 a9:=Tryz.isAgg9,
 z9:=Tryz.sizeOf9,
 v9:=Tryz.zeroValue9,
 t20:=Tryz.underlying20,
 a20:=Tryz.isAgg20,
 z20:=Tryz.sizeOf20,
 v20:=Tryz.zeroValue20,
 t22:=Tryz.underlying29,
 a22:=Tryz.isAgg29,
 z22:=Tryz.sizeOf29,
 v22:=Tryz.zeroValue29 }
theorem zsf (n:Nat) (hn:n ≤ 20000) (w:World) :
   Calls Tryz.prog 171 #[.slice none 0 0,.int .i64 n] w fun e w'=>∃ v,e = .returned v ∧ w'.ownsRow w.heap.size 105 9 v 0 [] ∧ Below w.heap.size w w':=by
 obtain ⟨j0,hj,hy0,hy1,hy2⟩:=info_parts zcs
 by_cases h0:n = 0
 · subst h0
   refine (Any8.slices_Grow_room zyd none 0 0 0 w (by omega) (by omega) (by omega) (by omega)).mono ?_
   rintro e w' ⟨rfl,rfl⟩
   exact ⟨_,rfl,World.ownsRow_nil _ _ _ _,Below.refl _ _⟩
 · refine (Any8.slices_Grow_grow zyd j0 _ hj hy0 (by rw [hy1];omega) none 0 0 n [] w (by omega) (by omega) (by rw [hy2];omega) (by omega) (by simp) (fun _=>rfl) (fun a h=>by cases h)).mono ?_
   rintro e w' ⟨rfl,rfl⟩
   have hge:=grownCap_ge w (0 + n) 0 (growA_ren.t 25)
   have hle:=grownCap_le_maxLen w (0 + n) 0 (growA_ren.t 25) (by unfold maxLen;omega)
   refine ⟨_,rfl,⟨by simp,.inr ⟨w.heap.size,_,_,rfl,Nat.le_refl _,heap_alloc_new w.drew _,by omega,hle,?_,by simp⟩⟩,(Below.refl _ _).drew.alloc (Nat.le_refl _) _⟩
   simp only [Array.size_append,List.size_toArray,size_zeroCells,List.length_nil,Nat.zero_add,Nat.sub_zero]
   rw [← Nat.add_mul]
   rw [show (Value.cells (.agg #[.slice none 0 0,.int .i64 0,.int .i64 0,.int .i64 0,.int .i64 0,.int .i64 0,.int .i64 0,.int .i64 0,.int .i64 0])).size = 9 from rfl]
   congr 1
   simp only [Nat.zero_add] at hge
   omega
theorem zmx (a:Addr) (w:World):(storeCells a []).run Tryz.prog w = .ok () w:=by simp [storeCells]
theorem zla (ty:TypeId) (base oa:Option Addr) (n cap c:Nat) (hn:n ≤ cap) (w:World) :
   (Builtin.append_ #[29,29] ty #[.slice base n cap,.slice oa 0 c]).run Tryz.prog w = .ok (.slice base n cap) w:=by
 obtain ⟨j0,hj,hy0,hy1,hy2⟩:=info_parts zcs
 have hf:(Builtin.firstCells j0.size 0 (.slice oa 0 c)).run Tryz.prog w = .ok #[] w:=by
   cases oa with
   | none=>exact run_firstCells_none w _ _ _ _
   | some a=>exact run_firstCells_some w j0.size 0 a 0 c [] (by simp) (fun j v h=>by simp at h)
 cases base with
 | none=>simp [Builtin.append_,run_underlying Tryz.underlying29,sizeOf,typeInfo,hj,Builtin.lenOf,hn,hf,Result.andThen]
 | some a=>simp [Builtin.append_,run_underlying Tryz.underlying29,sizeOf,typeInfo,hj,Builtin.lenOf,hn,hf,zmx,Result.andThen]
theorem zmc {w:World} {l:List Fr} {U:Nat → Value} {oa:Option Addr} {cap b o:Nat} (h:FrAt w l U oa cap b o):∀ j u,(frCs U 0 l)[j]? = some u → w.cell? ((⟨b,o,none⟩:Addr).add j) = some u:=by
 intro j u hu
 have hj:j < (frCs U 0 l).length:=(List.getElem?_eq_some_iff.1 hu).1
 rw [zcy] at hj
 obtain ⟨i,r,hr,rfl⟩:∃ i r,r < 9 ∧ j = i * 9 + r:=⟨j / 9,j % 9,Nat.mod_lt _ (by omega),by omega⟩
 obtain ⟨f,hf⟩:∃ f,l[i]? = some f:=⟨_,List.getElem?_eq_getElem (by omega)⟩
 rw [zcl U 0 l i f hf r hr,Nat.zero_add] at hu
 have:=h.cell i f hf r u hu
 rw [← this]
 by_cases e:i * 9 + r = 0
 · obtain ⟨rfl,rfl⟩:i = 0 ∧ r = 0:=by omega
   simp [Addr.add]
 · simp only [Addr.add]
   first | rw [if_neg e,Nat.add_assoc] | (rw [Nat.add_assoc];split <;> first | rfl | omega) | (simp [Nat.add_assoc];intro h1 h2;omega)
theorem zmm {w:World} {l:List Fr} {U:Nat → Value} {oa:Option Addr} {cap b o:Nat} (h:FrAt w l U oa cap b o):∀ u ∈ frCs U 0 l,u.oneCell' = true:=by
 intro u hu
 obtain ⟨j,hj⟩:=List.getElem?_of_mem hu
 have hlt:j < (frCs U 0 l).length:=(List.getElem?_eq_some_iff.1 hj).1
 rw [zcy] at hlt
 obtain ⟨i,r,hr,rfl⟩:∃ i r,r < 9 ∧ j = i * 9 + r:=⟨j / 9,j % 9,Nat.mod_lt _ (by omega),by omega⟩
 obtain ⟨f,hf⟩:∃ f,l[i]? = some f:=⟨_,List.getElem?_eq_getElem (by omega)⟩
 rw [zcl U 0 l i f hf r hr,Nat.zero_add] at hj
 obtain ⟨oq,cq,e⟩:=(h.ids i f hf).val
 exact oneF f (by rw [e];rfl) u (List.mem_of_getElem? hj)
theorem zj0 (ty:TypeId) {w:World} {base n:Nat} {v sv:Value} {xs:List Value} {l:List Fr} (hown:w.ownsRow base 105 9 v n xs) {U:Nat → Value} {oa:Option Addr} {cap b o:Nat} (hsv:sv = .slice oa l.length cap) (h:FrAt w l U oa cap b o)
   (hn:n + l.length ≤ 30000) (hbase:base ≤ w.heap.size) :
   ∃ v' w',(Builtin.append_ #[29,29] ty #[v,sv]).run Tryz.prog w = .ok v' w' ∧ w'.ownsRow base 105 9 v' (n + l.length) (xs ++ frCs U 0 l) ∧ w.grownBy w' v.ownBlock:=by
 subst hsv
 obtain ⟨j0,hj,hy0,hy1,hy2⟩:=info_parts zcs
 by_cases h0:l.length = 0
 · have e:l = []:=List.length_eq_zero_iff.1 h0
   subst e
   obtain ⟨ov,cv,gv,e,h1,_⟩:=zan hown
   subst e
   refine ⟨_,w,zla ty ov oa n cv cap h1 w,?_,⟨rfl,rfl,rfl,Nat.le_refl _,fun _ _ _=>rfl⟩⟩
   simpa [frCs] using hown
 · obtain ⟨rfl,hb⟩:=h.at0 (by omega)
   obtain ⟨v',w',r1,r2,r3,_⟩:=run_append_own w base 29 ty 105 j0 _ 9 88 Tryz.underlying29 hj hy0 hy1 hy2 rfl (by omega) v n xs hown ⟨b,o,none⟩ l.length cap (frCs U 0 l) (zcy U 0 l) (zmc h) (zmm h) (by unfold maxLen;omega) (by omega) hbase
   exact ⟨v',w',r1,r2,r3⟩
theorem zs4 {w:World} {base:Nat} {l:List Fr} {U:Nat → Value} {v:Value} (h:w.ownsRow base 105 9 v l.length (frCs U 0 l)) (hi:∀ k f,l[k]? = some f → TxW w f.ids (U k)):FrW w l v:=by
 obtain ⟨oa,cap,g,e,h1,h2,hg⟩:=zan h
 subst e
 refine ⟨U,oa,cap,g,0,rfl,h1,h2,fun h0=>⟨(hg h0).1,(hg h0).2.2⟩,fun k f hf j u hu=>?_,hi⟩
 obtain ⟨rfl,_⟩:=hg (by have:=posA hf;omega)
 have hj:j < 9:=(List.getElem?_eq_some_iff.1 hu).1
 have hk:=posA hf
 rw [Nat.zero_add,h.cellAt (k * 9 + j) (by omega),zcl _ _ _ _ _ hf _ hj,Nat.zero_add]
 exact hu
def zec (U V:Nat → Value) (n:Nat):Nat → Value:=fun i=>if i < n then U i else V (i - n)
theorem zqc (U V:Nat → Value) (l m:List Fr):frCs U 0 l ++ frCs V 0 m = frCs (zec U V l.length) 0 (l ++ m):=by
 rw [zg0,Nat.zero_add]
 congr 1
 · exact zez fun i hi=>by simp [zec,hi]
 · have:∀ (s t:Nat) (q:List Fr),(∀ i,i < q.length → V (t + i) = zec U V l.length (s + i)) → frCs V t q = frCs (zec U V l.length) s q:=by
     intro s t q
     induction q generalizing s t with
     | nil=>intro _;rfl
     | cons p q ih =>
       intro h
       rw [frCs,frCs,show V t = zec U V l.length s from h 0 (by simp),ih (s + 1) (t + 1) fun i hi=>by have:=h (i + 1) (by simp;omega);rwa [show t + (i + 1) = t + 1 + i by omega,show s + (i + 1) = s + 1 + i by omega] at this]
   exact this l.length 0 m fun i hi=>by
     unfold zec;rw [if_neg (by omega),Nat.zero_add,Nat.add_sub_cancel_left]
structure Srcs (w:World) (L:Nat → List Fr) (V:Nat → Value) (U:Nat → Nat → Value) (bs:Nat):Prop where
 lt:bs < w.heap.size
 cell:∀ k,k < 2 → w.cell? ⟨bs,k,none⟩ = some (V k)
 lies:∀ k,k < 2 → ∃ oa cap b o,V k = .slice oa (L k).length cap ∧ FrAt w (L k) (U k) oa cap b o
 len:(L 0).length + (L 1).length ≤ 20000
def totL (L:Nat → List Fr):Nat → Nat
 | 0=>0
 | k + 1=>totL L k + (L k).length
def totC (L:Nat → List Fr) (U:Nat → Nat → Value):Nat → List Value
 | 0=>[]
 | k + 1=>totC L U k ++ frCs (U k) 0 (L k)
theorem Srcs.tot {w:World} {L:Nat → List Fr} {V:Nat → Value} {U:Nat → Nat → Value} {bs:Nat} (h:Srcs w L V U bs):∀ k,k ≤ 2 → totL L k ≤ 20000:=by
 intro k hk
 have:=h.len
 obtain rfl | rfl | rfl:k = 0 ∨ k = 1 ∨ k = 2:=by omega
 · simp [totL]
 · simp only [totL];omega
 · simp only [totL];omega
def zyp (L:Nat → List Fr) (w0:World) (s i:Value) (wr:World):Prop:=∃ k:Nat,k ≤ 2 ∧ i = .int .i64 k ∧ s = .int .i64 (totL L k) ∧ Hid (w0 = wr)
def ztl (L:Nat → List Fr) (U:Nat → Nat → Value) (w0:World) (v i:Value) (wr:World):Prop :=
 ∃ k:Nat,k ≤ 2 ∧ i = .int .i64 k ∧ Hid (wr.ownsRow w0.heap.size 105 9 v (totL L k) (totC L U k)) ∧ Hid (Below w0.heap.size w0 wr)
theorem zqh (L:Nat → List Fr) (V:Nat → Value) (U:Nat → Nat → Value) (bs:Nat) (w:World) (hS:Srcs w L V U bs) :
   Calls Tryz.prog 146 #[.slice (some ⟨bs,0,none⟩) 2 2] w fun e w'=>∃ v,e = .returned v ∧ w'.ownsRow w.heap.size 105 9 v (totL L 2) (totC L U 2) ∧ Below w.heap.size w w':=by
 have HS:=y35h hS
 have G:=fun w'=>y35h (zsf (totL L 2) (HS.out.tot 2 (by omega)) w')
 clear hS
 go_enter Tryz.func146,Tryz.ntmps146
 go_wp2_with fail
 go_loopw [3,11] (fun s i wr=>zyp L w s i wr) (fun _ i _=>2 - (intOf i).toNat)
 case atStart=>exact ⟨0,by omega,rfl,rfl,rfl⟩
 case round =>
   obtain ⟨k,hk,rfl,rfl,hw⟩:=hrel
   have ew:=hw.out
   subst ew
   clear hw
   by_cases hlt:k < 2
   · obtain ⟨oa,cap,b,o,hV,hF⟩:=HS.out.lies k hlt
     have cv:=HS.out.cell k hlt
     rw [hV] at cv
     have zb:=HS.out.lt
     have t1:=HS.out.tot k hk
     have t2:=HS.out.tot (k + 1) (by omega)
     have t3:totL L (k + 1) = totL L k + (L k).length:=rfl
     have k0:(0:Int) ≤ (k:Int):=by omega
     have k1:(k:Int) < 2:=by omega
     have hq:((L k).length:Int) ≤ 20000:=by omega
     have hq0:(0:Int) ≤ ((L k).length:Int):=by omega
     have HT:=y35h t3
     clear t2 t3 hV hF
     generalize (L k).length = m at *
     generalize ht:totL L k = t at *
     have hneg:decide (((t:Int) + (m:Int)) < 0) = false:=decide_eq_false (by omega)
     go_wp2_with fail
     go_roundw
     case rel=>exact ⟨k + 1,by omega,by go_num,by rw [HT.out];go_num,rfl⟩
     case measure=>simp [intOf];omega
   · have e:k = 2:=by omega
     subst e
     go_wp2_with (go_at_call 171;refine (G _).out.mono ?_;rintro e w1 ⟨v0,rfl,hr0,hb0⟩)
     have C0:ztl L U w v0 (.int .i64 0) w1:=⟨0,by omega,rfl,hr0,hb0⟩
     clear hr0 hb0
     go_loopw [6,27] (fun v i wr=>ztl L U w v i wr) (fun _ i _=>2 - (intOf i).toNat)
     case atStart=>exact C0
     case round =>
       clear C0
       obtain ⟨k,hk,rfl,HR,HB⟩:=hrel
       by_cases hlt:k < 2
       · obtain ⟨oa,cap,b,o,hV,hF⟩:=HS.out.lies k hlt
         have cv:=(HB.out.cell (p:=⟨bs,k,none⟩) HS.out.lt).trans (HS.out.cell k hlt)
         rw [hV] at cv
         have zb:bs < wr.heap.size:=Nat.lt_of_lt_of_le HS.out.lt HB.out.size
         have t1:=HS.out.tot (k + 1) (by omega)
         simp only [totL] at t1
         have k0:(0:Int) ≤ (k:Int):=by omega
         have k1:(k:Int) < 2:=by omega
         have hF':=hF.later HB.out (Nat.le_refl _)
         have AP:=fun ty=>zj0 ty HR.out rfl hF' (by omega) HB.out.size
         have HA:=y35h AP
         obtain ⟨ov,cvv,gv,rfl,_,_,_⟩:=zan HR.out
         clear hF hF' AP hV
         go_wp2_with (at_builtin;obtain ⟨v',w',hrun,hown,hgr⟩:=HA.out _;refine Lib.wpList_append_run _ rfl _ _ _ _ rfl _ _ rfl rfl _ _ hrun ?_)
         have HB2:=y35h (HB.out.grown hgr HB.out.size fun q hq=>(World.ownsRow.lt HR.out q hq).1)
         go_roundw
         case rel=>exact ⟨k + 1,by omega,by go_num,hown,HB2⟩
         case measure=>simp [intOf];omega
       · have e:k = 2:=by omega
         subst e
         go_wp2_with fail
         go_ret
         exact ⟨_,rfl,HR.out,HB.out⟩
theorem zr9 (l m:List Fr) (U0 U1:Nat → Value) (oa oa':Option Addr) (cap cap' b b' o o':Nat) (bs:Nat) (w:World) (hlt:bs < w.heap.size) (c0:w.cell? ⟨bs,0,none⟩ = some (.slice oa l.length cap)) (c1:w.cell? ⟨bs,1,none⟩ = some (.slice oa' m.length cap')) (h0:FrAt w l U0 oa cap b o) (h1:FrAt w m U1 oa' cap' b' o') (hlen:l.length + m.length ≤ 20000) :
   Calls Tryz.prog 146 #[.slice (some ⟨bs,0,none⟩) 2 2] w fun e w'=>∃ u,e = .returned u ∧ w'.ownsRow w.heap.size 105 9 u (l ++ m).length (frCs (zec U0 U1 l.length) 0 (l ++ m)) ∧ Below w.heap.size w w':=by
 refine (zqh (fun k=>if k = 0 then l else m) (fun k=>if k = 0 then .slice oa l.length cap else .slice oa' m.length cap') (fun k=>if k = 0 then U0 else U1) bs w ⟨hlt,fun k hk=>?_,fun k hk=>?_,by simpa using hlen⟩).mono ?_
 · obtain rfl | rfl:k = 0 ∨ k = 1:=by omega
   · simpa using c0
   · simpa using c1
 · obtain rfl | rfl:k = 0 ∨ k = 1:=by omega
   · exact ⟨_,_,_,_,rfl,h0⟩
   · exact ⟨_,_,_,_,rfl,h1⟩
 · rintro e w' ⟨u,rfl,hr,hb⟩
   refine ⟨u,rfl,?_,hb⟩
   simp only [totL,totC] at hr
   simp only [if_pos,List.nil_append,Nat.zero_add,show ((1:Nat) = 0) = False by simp,if_false,if_true] at hr
   rw [zqc,← List.length_append] at hr
   exact hr
theorem z0d {w:World} {base:Nat} {l m:List Fr} {U0 U1:Nat → Value} {u:Value} (h:w.ownsRow base 105 9 u (l ++ m).length (frCs (zec U0 U1 l.length) 0 (l ++ m))) (h0:∀ k f,l[k]? = some f → TxW w f.ids (U0 k)) (h1:∀ k f,m[k]? = some f → TxW w f.ids (U1 k)):FrW w (l ++ m) u:=by
 refine zs4 h fun k f hf=>?_
 by_cases hk:k < l.length
 · rw [List.getElem?_append_left hk] at hf
   simp only [zec,hk,if_true]
   exact h0 k f hf
 · rw [List.getElem?_append_right (by omega)] at hf
   simp only [zec,hk,if_false]
   exact h1 _ f hf
theorem zj7 {l:List ByteArray} {k:Nat} {s x:ByteArray} (hx:l[k]? = some x) (h:za5 (l.take k) s = false) (hs:(s.toList == x.toList) = false):za5 (l.take (k + 1)) s = false:=by
 rw [zdj hx]
 unfold za5 at *
 rw [List.any_append,h]
 simp only [List.any_cons,List.any_nil,Bool.or_false,Bool.false_or]
 rw [tl_ne] at hs ⊢
 exact fun e=>hs e.symm
theorem zlh {l:List ByteArray} {k:Nat} {s x:ByteArray} (hx:l[k]? = some x) (hs:(s.toList == x.toList) = true):za5 l s = true:=by
 rw [tl_eq] at hs;subst hs
 exact among_iff.2 (List.mem_of_getElem? hx)
def zyo (l:List ByteArray) (s:ByteArray) (n:Nat) (w0:World) (i:Value) (wr:World):Prop:=∃ k:Nat,k ≤ n ∧ i = .int .i64 k ∧ Hid (za5 (l.take k) s = false) ∧ Hid (w0 = wr)
theorem zoy (l:List ByteArray) (v:Value) (s:ByteArray) (w:World) (hT:TxW w l v) :
   Calls Tryz.prog 109 #[v,.string s] w fun e w'=>∃ n:Int,e = .returned (.int .i64 n) ∧ decide (0 ≤ n) = za5 l s ∧ w' = w:=by
 obtain ⟨oa,cap,b,o,rfl,hT⟩:=hT
 have h1:=hT.len
 have h2:=hT.max
 unfold maxLen at h2
 have HT:=y35h hT
 clear hT
 generalize hn:l.length = n at *
 have HN:=y35h hn
 clear hn
 go_enter Tryz.func109,Tryz.ntmps109
 go_wp2_with fail
 go_loopw [8] (fun i wr=>zyo l s n w i wr) (fun i _=>n - (intOf i).toNat)
 case atStart=>exact ⟨0,Nat.zero_le _,rfl,by simp [Hid,za5],rfl⟩
 case round =>
   obtain ⟨k,hk,rfl,HS,hw⟩:=hrel
   have ew:=hw.out
   subst ew
   clear hw
   by_cases hlt:k < n
   · obtain ⟨x,hx⟩:∃ x,l[k]? = some x:=⟨_,List.getElem?_eq_getElem (by rw [HN.out];exact hlt)⟩
     obtain ⟨rfl,hb⟩:=HT.out.at0 (by rw [HN.out];omega)
     have c0:=HT.out.cell k x hx
     cases hs:(s.toList == x.toList)
     · have HF:=y35h (zj7 hx HS.out hs)
       clear HS
       go_wp2_with fail
       go_roundw
       case rel=>exact ⟨k + 1,by omega,by go_num,HF,rfl⟩
       case measure=>simp [intOf];omega
     · have HF:=y35h (zlh hx hs)
       clear HS
       go_wp2_with fail
       go_ret
       exact ⟨_,rfl,by rw [HF.out];simp,rfl⟩
   · have h:=HS.out
     rw [List.take_of_length_le (by rw [HN.out];omega)] at h
     have HF:=y35h h
     clear h HS
     go_wp2_with fail
     go_ret
     exact ⟨_,rfl,by rw [HF.out];simp,rfl⟩
theorem zkj (l:List ByteArray) (v:Value) (s:ByteArray) (w:World) (hT:TxW w l v) :
   Calls Tryz.prog 63 #[v,.string s] w fun e w'=>e = .returned (.bool (za5 l s)) ∧ w' = w:=by
 have C:=y35h (zoy l v s w hT)
 obtain ⟨oa,cap,rfl⟩:=hT.val
 clear hT
 go_enter Tryz.func63,Tryz.ntmps63
 go_wp2_with (go_at_call 109;refine C.out.mono ?_;rintro e w' ⟨n,rfl,hn,rfl⟩)
 go_ret
 first | exact ⟨zaa hn,rfl⟩ | exact ⟨rfl,rfl⟩
def z0a (l m:List ByteArray) (n:Nat) (w0:World) (i:Value) (wr:World):Prop:=∃ k:Nat,k ≤ n ∧ i = .int .i64 k ∧ Hid (∀ j,j < k → l[j]? = m[j]?) ∧ Hid (Below w0.heap.size w0 wr)
theorem keqIds_iff:∀ {l m:List ByteArray},zb9 l m = true ↔ l = m
 | [],[]=>by simp [zb9]
 | [],b :: m=>by simp [zb9]
 | a :: l,[]=>by simp [zb9]
 | a :: l,b :: m=>by
   have:=keqIds_iff (l:=l) (m:=m)
   simp only [zb9,Bool.and_eq_true,List.cons.injEq]
   rw [this]
   constructor
   · rintro ⟨h1,h2⟩;exact ⟨by first | exact tl_eq.1 h1 | simpa using h1,h2⟩
   · rintro ⟨h1,h2⟩;subst h1;exact ⟨by simp,h2⟩
theorem zmk {l m:List ByteArray} (h:l ≠ m):zb9 l m = false:=by
 cases e:zb9 l m with
 | false=>rfl
 | true=>exact absurd (keqIds_iff.1 e) h
theorem zoe (l m:List ByteArray) (v v':Value) (w:World) (hT:TxW w l v) (hM:TxW w m v') :
   Calls Tryz.prog 126 #[v,v'] w fun e w'=>e = .returned (.bool (zb9 l m)) ∧ Below w.heap.size w w':=by
 obtain ⟨oa,cap,b,o,rfl,hT⟩:=hT
 obtain ⟨oa',cap',b',o',rfl,hM⟩:=hM
 have h1:=hT.len
 have h2:=hT.max
 have h1':=hM.len
 have h2':=hM.max
 unfold maxLen at h2 h2'
 have HT:=y35h hT
 have HM:=y35h hM
 clear hT hM
 by_cases hl:l.length = m.length
 · rw [← hl] at h1' ⊢
   have HL:=y35h hl
   clear hl
   have hne:((l.length:Int) == (l.length:Int)) = true:=by simp
   generalize hn:l.length = n at *
   have HN:=y35h hn
   clear hn
   go_enter Tryz.func126,Tryz.ntmps126
   go_wp2_with fail
   go_loopw [13] (fun i wr=>z0a l m n w i wr) (fun i _=>n - (intOf i).toNat)
   case atStart=>exact ⟨0,Nat.zero_le _,rfl,y35h fun j hj=>absurd hj (by omega),y35h (Below.refl _ _)⟩
   case round =>
     obtain ⟨k,hk,rfl,HS,HB⟩:=hrel
     by_cases hlt:k < n
     · obtain ⟨x,hx⟩:∃ x,l[k]? = some x:=⟨_,List.getElem?_eq_getElem (by rw [HN.out];exact hlt)⟩
       obtain ⟨y,hy⟩:∃ y,m[k]? = some y:=⟨_,List.getElem?_eq_getElem (by rw [← HL.out];exact hlt)⟩
       obtain ⟨rfl,hb⟩:=HT.out.at0 (by rw [HN.out];omega)
       obtain ⟨rfl,hb'⟩:=HM.out.at0 (by rw [← HL.out];omega)
       have c0:=(HT.out.later HB.out (Nat.le_refl _)).cell k x hx
       have c1:=(HM.out.later HB.out (Nat.le_refl _)).cell k y hy
       have r0:=fun dd os=>cell_regrown c0 dd os
       have r1:=fun dd os=>cell_regrown c1 dd os
       have z0:b < wr.heap.size:=Nat.lt_of_lt_of_le hb HB.out.size
       have z1:b' < wr.heap.size:=Nat.lt_of_lt_of_le hb' HB.out.size
       have HX:=y35h hx
       have HY:=y35h hy
       have k0:(0:Int) ≤ (k:Int):=by omega
       have k1:(k:Int) < (n:Int):=by omega
       clear c0 c1 hx hy hb hb'
       cases hs:(x.toList == y.toList)
       · have HF:=y35h (show zb9 l m = false from zmk (fun e=>by
           have h1:=HX.out
           rw [e,HY.out] at h1
           cases h1;simp at hs))
         go_wp2_with fail
         refine wp_region_quiet_below (by kernel_rfl) (by kernel_rfl) ?_
         repeat (first | go_big_quiet_step (fail) | quiet_step (fail))
         refine wpQuiet_nil ?_
         intro w7 hw'
         have hb7:=y35h (zac hw')
         clear hw' r0 r1
         go_wp2_with fail
         go_ret
         exact ⟨zaa HF.out.symm,HB.out.trans (hb7.out.mono HB.out.size)⟩
       · have HF:=y35h (show ∀ j,j < k + 1 → l[j]? = m[j]? from fun j hj=>by
           by_cases e:j = k
           · subst e;rw [HX.out,HY.out,tl_eq.1 hs]
           · exact HS.out j (by omega))
         go_wp2_with fail
         refine wp_region_quiet_below (by kernel_rfl) (by kernel_rfl) ?_
         repeat (first | go_big_quiet_step (fail) | quiet_step (fail))
         refine wpQuiet_nil ?_
         intro w7 hw'
         have hb7:=y35h (zac hw')
         clear hw' r0 r1
         go_wp2_with fail
         go_roundw
         case rel=>exact ⟨k + 1,by omega,by go_num,HF,y35h (HB.out.trans (hb7.out.mono HB.out.size))⟩
         case measure=>simp [intOf];omega
     · have HF:=y35h (show zb9 l m = true from keqIds_iff.2 (List.ext_getElem? fun j=>by
         by_cases hj:j < k
         · exact HS.out j hj
         · rw [List.getElem?_eq_none (by rw [HN.out];omega),List.getElem?_eq_none (by rw [← HL.out];omega)]))
       go_wp2_with fail
       go_ret
       exact ⟨zaa HF.out.symm,HB.out⟩
 · have HF:=y35h (zmk (l:=l) (m:=m) (fun e=>hl (by rw [e])))
   have hne:((l.length:Int) == (m.length:Int)) = false:=by simp;omega
   clear hl
   go_enter Tryz.func126,Tryz.ntmps126
   go_wp2_with fail
   go_ret
   exact ⟨zaa HF.out.symm,Below.refl _ _⟩
def z1y (l:List ByteArray) (n:Nat) (w0:World) (i:Value) (wr:World):Prop:=∃ k:Nat,k ≤ n ∧ i = .int .i64 k ∧ Hid ((l.take k).any (fun s=>!zay s) = false) ∧ Hid (w0 = wr)
theorem zsu (s:ByteArray) (w:World) :
   Calls Tryz.prog 123 #[.string s] w fun e w'=>e = .returned (.bool (!zay s)) ∧ w' = w:=by
 have H:=y35h (ze6 s w)
 generalize zay s = r at *
 go_enter Tryz.func123,Tryz.ntmps123
 go_wp2_with (go_at_call 97;refine (H.out).mono ?_;rintro e w' ⟨rfl,rfl⟩)
 go_ret
 exact ⟨rfl,rfl⟩
theorem zox (l:List ByteArray) (v:Value) (w:World) (hT:TxW w l v) :
   Calls Tryz.prog 160 #[v,.func (Fn.func 123) #[] #[]] w fun e w'=>∃ n:Int,e = .returned (.int .i64 n) ∧ decide (0 ≤ n) = (l.any fun s=>!zay s) ∧ w' = w:=by
 obtain ⟨oa,cap,b,o,rfl,hT⟩:=hT
 have h1:=hT.len
 have h2:=hT.max
 unfold maxLen at h2
 have HT:=y35h hT
 clear hT
 generalize hn:l.length = n at *
 have HN:=y35h hn
 clear hn
 go_enter Tryz.func160,Tryz.ntmps160
 go_wp2_with fail
 go_loopw [8] (fun i wr=>z1y l n w i wr) (fun i _=>n - (intOf i).toNat)
 case atStart=>exact ⟨0,Nat.zero_le _,rfl,by simp [Hid],rfl⟩
 case round =>
   obtain ⟨k,hk,rfl,HS,hw⟩:=hrel
   have ew:=hw.out
   subst ew
   clear hw
   by_cases hlt:k < n
   · obtain ⟨x,hx⟩:∃ x,l[k]? = some x:=⟨_,List.getElem?_eq_getElem (by rw [HN.out];exact hlt)⟩
     obtain ⟨rfl,hb⟩:=HT.out.at0 (by rw [HN.out];omega)
     have c0:=HT.out.cell k x hx
     have C:=y35h (zsu x w)
     have HX:=y35h hx
     clear hx
     cases hs:zay x
     · rw [hs] at C
       have HF:=y35h (show (l.any fun s=>!zay s) = true from List.any_eq_true.2 ⟨x,List.mem_of_getElem? HX.out,by rw [hs];rfl⟩)
       clear HS
       go_wp2_with (go_at_call 123;refine C.out.mono ?_;rintro e w' ⟨rfl,rfl⟩)
       go_ret
       exact ⟨_,rfl,by rw [HF.out];simp,rfl⟩
     · rw [hs] at C
       have HF:=y35h (show ((l.take (k + 1)).any fun s=>!zay s) = false by rw [zdj HX.out,List.any_append,HS.out];simp [hs])
       clear HS
       go_wp2_with (go_at_call 123;refine C.out.mono ?_;rintro e w' ⟨rfl,rfl⟩)
       go_roundw
       case rel=>exact ⟨k + 1,by omega,by go_num,HF,rfl⟩
       case measure=>simp [intOf];omega
   · have h:=HS.out
     rw [List.take_of_length_le (by rw [HN.out];omega)] at h
     have HF:=y35h h
     clear h HS
     go_wp2_with fail
     go_ret
     exact ⟨_,rfl,by rw [HF.out];simp,rfl⟩
theorem zki (l:List ByteArray) (v:Value) (w:World) (hT:TxW w l v) :
   Calls Tryz.prog 122 #[v,.func (Fn.func 123) #[] #[]] w fun e w'=>e = .returned (.bool (l.any fun s=>!zay s)) ∧ w' = w:=by
 have C:=y35h (zox l v w hT)
 obtain ⟨oa,cap,rfl⟩:=hT.val
 clear hT
 go_enter Tryz.func122,Tryz.ntmps122
 go_wp2_with (go_at_call 160;refine C.out.mono ?_;rintro e w' ⟨n,rfl,hn,rfl⟩)
 go_ret
 first | exact ⟨zaa hn,rfl⟩ | exact ⟨rfl,rfl⟩
abbrev frV (f:Fr) (u:Value):Value:=.agg #[u,.int .i64 (f.v 0),.int .i64 (f.v 1),.int .i64 (f.v 2),.int .i64 (f.v 3),.int .i64 (f.v 4),.int .i64 (f.v 5),.int .i64 (f.v 6),.int .i64 (f.v 7)]
theorem zhv {P:Fr → Bool} {l:List Fr} {k:Nat} {f:Fr} (hf:l[k]? = some f) (h:(l.take k).any P = false) (hs:P f = false):(l.take (k + 1)).any P = false:=by
 rw [zdj hf,List.any_append,h];simp [hs]
theorem zjk {P:Fr → Bool} {l:List Fr} {k:Nat} {f:Fr} (hf:l[k]? = some f) (hs:P f = true):l.any P = true:=List.any_eq_true.2 ⟨f,List.mem_of_getElem? hf,hs⟩
def zrz (P:Fr → Bool) (l:List Fr) (n:Nat) (w0:World) (i:Value) (wr:World):Prop:=∃ k:Nat,k ≤ n ∧ i = .int .i64 k ∧ Hid ((l.take k).any P = false) ∧ Hid (Below w0.heap.size w0 wr)
theorem zow (P:Fr → Bool) (l:List Fr) (v:Value) (bx bi:Nat) (w:World) (hR:FrW w l v) (C:∀ w',Below w.heap.size w w' → ∀ (k:Nat) (f:Fr) (u:Value),l[k]? = some f → TxW w' f.ids u → Calls Tryz.prog 62 #[frV f u,.pointer (some ⟨bx,0,none⟩),.pointer (some ⟨bi,0,none⟩)] w' fun e w''=>e = .returned (.bool (P f)) ∧ Below w'.heap.size w' w'') :
   Calls Tryz.prog 108 #[v,.func (Fn.func 62) #[] #[.pointer (some ⟨bx,0,none⟩),.pointer (some ⟨bi,0,none⟩)]] w fun e w'=>∃ n:Int,e = .returned (.int .i64 n) ∧ decide (0 ≤ n) = l.any P ∧ Below w.heap.size w w':=by
 obtain ⟨U,oa,cap,b,o,rfl,hF⟩:=hR
 have h1:=hF.len
 have h2:=hF.max
 unfold maxLen at h2
 have HF:=y35h hF
 have HC:=y35h C
 clear hF C
 generalize hn:l.length = n at *
 have HN:=y35h hn
 clear hn
 go_enter Tryz.func108,Tryz.ntmps108
 go_wp2_with fail
 go_loopw [8] (fun i wr=>zrz P l n w i wr) (fun i _=>n - (intOf i).toNat)
 case atStart=>exact ⟨0,Nat.zero_le _,rfl,by simp [Hid],y35h (Below.refl _ _)⟩
 case round =>
   obtain ⟨k,hk,rfl,HS,HB⟩:=hrel
   by_cases hlt:k < n
   · obtain ⟨f,hf⟩:∃ f,l[k]? = some f:=⟨_,List.getElem?_eq_getElem (by rw [HN.out];exact hlt)⟩
     obtain ⟨rfl,hb⟩:=HF.out.at0 (by rw [HN.out];omega)
     have FL:=HF.out.later HB.out (Nat.le_refl _)
     obtain ⟨c0,c1,c2,c3,c4,c5,c6,c7,c8⟩:=za6 (w:=wr) (fun j u hu=>FL.cell k f hf j u hu)
     have zb:b < wr.heap.size:=Nat.lt_of_lt_of_le hb HB.out.size
     have CC:=y35h (HC.out wr HB.out k f (U k) hf (FL.ids k f hf))
     have HX:=y35h hf
     obtain ⟨ou,cu,hU⟩:=(HF.out.ids k f hf).val
     rw [hU] at c0 CC
     clear FL hf hU
     cases hs:P f
     · rw [hs] at CC
       have HY:=y35h (zhv HX.out HS.out hs)
       clear HS
       go_wp2_with (go_at_call 62;refine CC.out.mono ?_;rintro e w' ⟨rfl,hb'⟩)
       go_roundw
       case rel=>exact ⟨k + 1,by omega,by go_num,HY,y35h (HB.out.trans (hb'.mono HB.out.size))⟩
       case measure=>simp [intOf];omega
     · rw [hs] at CC
       have HY:=y35h (zjk HX.out hs)
       clear HS
       go_wp2_with (go_at_call 62;refine CC.out.mono ?_;rintro e w' ⟨rfl,hb'⟩)
       go_ret
       exact ⟨_,rfl,by rw [HY.out];simp,HB.out.trans (hb'.mono HB.out.size)⟩
   · have h:=HS.out
     rw [List.take_of_length_le (by rw [HN.out];omega)] at h
     have HY:=y35h h
     clear h HS
     go_wp2_with fail
     go_ret
     exact ⟨_,rfl,by rw [HY.out];simp,HB.out⟩
theorem zkh (P:Fr → Bool) (l:List Fr) (v:Value) (bx bi:Nat) (w:World) (hR:FrW w l v) (C:∀ w',Below w.heap.size w w' → ∀ (k:Nat) (f:Fr) (u:Value),l[k]? = some f → TxW w' f.ids u → Calls Tryz.prog 62 #[frV f u,.pointer (some ⟨bx,0,none⟩),.pointer (some ⟨bi,0,none⟩)] w' fun e w''=>e = .returned (.bool (P f)) ∧ Below w'.heap.size w' w'') :
   Calls Tryz.prog 61 #[v,.func (Fn.func 62) #[] #[.pointer (some ⟨bx,0,none⟩),.pointer (some ⟨bi,0,none⟩)]] w fun e w'=>e = .returned (.bool (l.any P)) ∧ Below w.heap.size w w':=by
 have D:=y35h (zow P l v bx bi w hR C)
 obtain ⟨oa,cap,rfl⟩:=hR.val
 clear hR C
 go_enter Tryz.func61,Tryz.ntmps61
 go_wp2_with (go_at_call 108;refine D.out.mono ?_;rintro e w' ⟨n,rfl,hn,hb⟩)
 go_ret
 first | exact ⟨zaa hn,hb⟩ | exact ⟨rfl,hb⟩
theorem zov (P:Fr → Bool) (l:List Fr) (v:Value) (w:World) (hR:FrW w l v) (C:∀ w',Below w.heap.size w w' → ∀ (k:Nat) (f:Fr) (u:Value),l[k]? = some f → TxW w' f.ids u → Calls Tryz.prog 79 #[frV f u] w' fun e w''=>e = .returned (.bool (P f)) ∧ Below w'.heap.size w' w'') :
   Calls Tryz.prog 108 #[v,.func (Fn.func 79) #[] #[]] w fun e w'=>∃ n:Int,e = .returned (.int .i64 n) ∧ decide (0 ≤ n) = l.any P ∧ Below w.heap.size w w':=by
 obtain ⟨U,oa,cap,b,o,rfl,hF⟩:=hR
 have h1:=hF.len
 have h2:=hF.max
 unfold maxLen at h2
 have HF:=y35h hF
 have HC:=y35h C
 clear hF C
 generalize hn:l.length = n at *
 have HN:=y35h hn
 clear hn
 go_enter Tryz.func108,Tryz.ntmps108
 go_wp2_with fail
 go_loopw [8] (fun i wr=>zrz P l n w i wr) (fun i _=>n - (intOf i).toNat)
 case atStart=>exact ⟨0,Nat.zero_le _,rfl,by simp [Hid],y35h (Below.refl _ _)⟩
 case round =>
   obtain ⟨k,hk,rfl,HS,HB⟩:=hrel
   by_cases hlt:k < n
   · obtain ⟨f,hf⟩:∃ f,l[k]? = some f:=⟨_,List.getElem?_eq_getElem (by rw [HN.out];exact hlt)⟩
     obtain ⟨rfl,hb⟩:=HF.out.at0 (by rw [HN.out];omega)
     have FL:=HF.out.later HB.out (Nat.le_refl _)
     obtain ⟨c0,c1,c2,c3,c4,c5,c6,c7,c8⟩:=za6 (w:=wr) (fun j u hu=>FL.cell k f hf j u hu)
     have zb:b < wr.heap.size:=Nat.lt_of_lt_of_le hb HB.out.size
     have CC:=y35h (HC.out wr HB.out k f (U k) hf (FL.ids k f hf))
     have HX:=y35h hf
     obtain ⟨ou,cu,hU⟩:=(HF.out.ids k f hf).val
     rw [hU] at c0 CC
     clear FL hf hU
     cases hs:P f
     · rw [hs] at CC
       have HY:=y35h (zhv HX.out HS.out hs)
       clear HS
       go_wp2_with (go_at_call 79;refine CC.out.mono ?_;rintro e w' ⟨rfl,hb'⟩)
       go_roundw
       case rel=>exact ⟨k + 1,by omega,by go_num,HY,y35h (HB.out.trans (hb'.mono HB.out.size))⟩
       case measure=>simp [intOf];omega
     · rw [hs] at CC
       have HY:=y35h (zjk HX.out hs)
       clear HS
       go_wp2_with (go_at_call 79;refine CC.out.mono ?_;rintro e w' ⟨rfl,hb'⟩)
       go_ret
       exact ⟨_,rfl,by rw [HY.out];simp,HB.out.trans (hb'.mono HB.out.size)⟩
   · have h:=HS.out
     rw [List.take_of_length_le (by rw [HN.out];omega)] at h
     have HY:=y35h h
     clear h HS
     go_wp2_with fail
     go_ret
     exact ⟨_,rfl,by rw [HY.out];simp,HB.out⟩
theorem zkg (P:Fr → Bool) (l:List Fr) (v:Value) (w:World) (hR:FrW w l v) (C:∀ w',Below w.heap.size w w' → ∀ (k:Nat) (f:Fr) (u:Value),l[k]? = some f → TxW w' f.ids u → Calls Tryz.prog 79 #[frV f u] w' fun e w''=>e = .returned (.bool (P f)) ∧ Below w'.heap.size w' w'') :
   Calls Tryz.prog 61 #[v,.func (Fn.func 79) #[] #[]] w fun e w'=>e = .returned (.bool (l.any P)) ∧ Below w.heap.size w w':=by
 have D:=y35h (zov P l v w hR C)
 obtain ⟨oa,cap,rfl⟩:=hR.val
 clear hR C
 go_enter Tryz.func61,Tryz.ntmps61
 go_wp2_with (go_at_call 108;refine D.out.mono ?_;rintro e w' ⟨n,rfl,hn,hb⟩)
 go_ret
 first | exact ⟨zaa hn,hb⟩ | exact ⟨rfl,hb⟩
theorem zsg (f:Fr) (u:Value) (r c:Int) (id:ByteArray) (bx bi:Nat) (w:World) (hT:TxW w f.ids u) (hx:Own w bx #[.int .i64 r,.int .i64 c] 67) (hi:Own w bi #[.string id] 9) :
   Calls Tryz.prog 62 #[frV f u,.pointer (some ⟨bx,0,none⟩),.pointer (some ⟨bi,0,none⟩)] w fun e w'=>e = .returned (.bool (zcx id r c f)) ∧ Below w.heap.size w w':=by
 obtain ⟨ou,cu,rfl⟩:=hT.val
 have B0:Below w.heap.size w (w.alloc (.cells #[.slice ou f.ids.length cu,.int .i64 (f.v 0),.int .i64 (f.v 1),.int .i64 (f.v 2),.int .i64 (f.v 3),.int .i64 (f.v 4),.int .i64 (f.v 5),.int .i64 (f.v 6),.int .i64 (f.v 7)] 105)):=(Below.refl _ _).alloc (Nat.le_refl _) _
 have G1:=y35h (Own.new w #[.slice ou f.ids.length cu,.int .i64 (f.v 0),.int .i64 (f.v 1),.int .i64 (f.v 2),.int .i64 (f.v 3),.int .i64 (f.v 4),.int .i64 (f.v 5),.int .i64 (f.v 6),.int .i64 (f.v 7)] 105)
 have lx:=(hx.later B0).cell
 have zx:=(hx.later B0).lt
 have l1:=G1.out.cell
 have z1:=G1.out.lt
 have CH:=y35h (zim f.v r c (w.alloc (.cells #[.slice ou f.ids.length cu,.int .i64 (f.v 0),.int .i64 (f.v 1),.int .i64 (f.v 2),.int .i64 (f.v 3),.int .i64 (f.v 4),.int .i64 (f.v 5),.int .i64 (f.v 6),.int .i64 (f.v 7)] 105)))
 have HB0:=y35h B0
 have HI:=y35h (hi.later B0)
 have HT:=y35h (hT.later B0 (Nat.le_refl _))
 have e:zcx id r c f = (hasV f.v r c && za5 f.ids id):=by unfold zcx;rw [Bool.and_comm]
 rw [e]
 clear e B0 hT hx hi
 cases hh:hasV f.v r c
 · rw [hh] at CH
   go_enter Tryz.func62,Tryz.ntmps62
   go_wp2_with (go_at_call 60;refine CH.out.mono ?_;rintro e w3 ⟨rfl,hb3⟩)
   go_ret
   exact ⟨rfl,HB0.out.trans (hb3.mono HB0.out.size)⟩
 · rw [hh] at CH
   rw [Bool.true_and]
   go_enter Tryz.func62,Tryz.ntmps62
   go_wp2_with (first
     | (go_at_call 60;refine CH.out.mono ?_;rintro e w3 ⟨rfl,hb3⟩;have l13:=(G1.out.later hb3).cell;have z13:=(G1.out.later hb3).lt;have li3:=(HI.out.later hb3).cell;have zi3:=(HI.out.later hb3).lt;have HT3:=y35h (zkj f.ids _ id w3 (HT.out.later hb3 (Nat.le_refl _))))
     | (go_at_call 63;refine HT3.out.mono ?_;rintro e w4 ⟨rfl,rfl⟩)
     | fail)
   go_ret
   exact ⟨rfl,HB0.out.trans (hb3.mono HB0.out.size)⟩
def oddB (f:Fr):Bool:=!mayV f.v || f.ids.any fun s=>!zay s
theorem zu2 (f:Fr) (u:Value) (w:World) (hT:TxW w f.ids u) :
   Calls Tryz.prog 79 #[frV f u] w fun e w'=>e = .returned (.bool (oddB f)) ∧ Below w.heap.size w w':=by
 obtain ⟨ou,cu,rfl⟩:=hT.val
 have B0:Below w.heap.size w (w.alloc (.cells #[.slice ou f.ids.length cu,.int .i64 (f.v 0),.int .i64 (f.v 1),.int .i64 (f.v 2),.int .i64 (f.v 3),.int .i64 (f.v 4),.int .i64 (f.v 5),.int .i64 (f.v 6),.int .i64 (f.v 7)] 105)):=(Below.refl _ _).alloc (Nat.le_refl _) _
 have G1:=y35h (Own.new w #[.slice ou f.ids.length cu,.int .i64 (f.v 0),.int .i64 (f.v 1),.int .i64 (f.v 2),.int .i64 (f.v 3),.int .i64 (f.v 4),.int .i64 (f.v 5),.int .i64 (f.v 6),.int .i64 (f.v 7)] 105)
 have l1:=G1.out.cell
 have z1:=G1.out.lt
 have CH:=y35h (zin f.v (w.alloc (.cells #[.slice ou f.ids.length cu,.int .i64 (f.v 0),.int .i64 (f.v 1),.int .i64 (f.v 2),.int .i64 (f.v 3),.int .i64 (f.v 4),.int .i64 (f.v 5),.int .i64 (f.v 6),.int .i64 (f.v 7)] 105)))
 have HB0:=y35h B0
 have HT:=y35h (hT.later B0 (Nat.le_refl _))
 unfold oddB
 clear B0 hT
 cases hh:mayV f.v
 · rw [hh] at CH
   go_enter Tryz.func79,Tryz.ntmps79
   go_wp2_with (go_at_call 78;refine CH.out.mono ?_;rintro e w3 ⟨rfl,hb3⟩)
   go_ret
   exact ⟨rfl,HB0.out.trans (hb3.mono HB0.out.size)⟩
 · rw [hh] at CH
   rw [Bool.not_true,Bool.false_or]
   go_enter Tryz.func79,Tryz.ntmps79
   go_wp2_with (first
     | (go_at_call 78;refine CH.out.mono ?_;rintro e w3 ⟨rfl,hb3⟩;have l13:=(G1.out.later hb3).cell;have z13:=(G1.out.later hb3).lt;have HT3:=y35h (zki f.ids _ w3 (HT.out.later hb3 (Nat.le_refl _))))
     | (go_at_call 122;refine HT3.out.mono ?_;rintro e w4 ⟨rfl,rfl⟩)
     | fail)
   go_ret
   exact ⟨rfl,HB0.out.trans (hb3.mono HB0.out.size)⟩
theorem zm9 (f g:Fr) (u t:Value) (w:World) (hT:TxW w f.ids u) (hM:TxW w g.ids t) :
   Calls Tryz.prog 125 #[frV f u,frV g t] w fun e w'=>e = .returned (.bool (eqFr f g)) ∧ Below w.heap.size w w':=by
 obtain ⟨ou,cu,rfl⟩:=hT.val
 obtain ⟨ot,ct,rfl⟩:=hM.val
 have B0:Below w.heap.size w ((w.alloc (.cells #[.slice ou f.ids.length cu,.int .i64 (f.v 0),.int .i64 (f.v 1),.int .i64 (f.v 2),.int .i64 (f.v 3),.int .i64 (f.v 4),.int .i64 (f.v 5),.int .i64 (f.v 6),.int .i64 (f.v 7)] 105)).alloc (.cells #[.slice ot g.ids.length ct,.int .i64 (g.v 0),.int .i64 (g.v 1),.int .i64 (g.v 2),.int .i64 (g.v 3),.int .i64 (g.v 4),.int .i64 (g.v 5),.int .i64 (g.v 6),.int .i64 (g.v 7)] 105)):=((Below.refl _ _).alloc (Nat.le_refl _) _).alloc (by simp) _
 have G1:=y35h ((Own.new w #[.slice ou f.ids.length cu,.int .i64 (f.v 0),.int .i64 (f.v 1),.int .i64 (f.v 2),.int .i64 (f.v 3),.int .i64 (f.v 4),.int .i64 (f.v 5),.int .i64 (f.v 6),.int .i64 (f.v 7)] 105).alloc (.cells #[.slice ot g.ids.length ct,.int .i64 (g.v 0),.int .i64 (g.v 1),.int .i64 (g.v 2),.int .i64 (g.v 3),.int .i64 (g.v 4),.int .i64 (g.v 5),.int .i64 (g.v 6),.int .i64 (g.v 7)] 105))
 have G2:=y35h (Own.newAt (w.alloc (.cells #[.slice ou f.ids.length cu,.int .i64 (f.v 0),.int .i64 (f.v 1),.int .i64 (f.v 2),.int .i64 (f.v 3),.int .i64 (f.v 4),.int .i64 (f.v 5),.int .i64 (f.v 6),.int .i64 (f.v 7)] 105)) #[.slice ot g.ids.length ct,.int .i64 (g.v 0),.int .i64 (g.v 1),.int .i64 (g.v 2),.int .i64 (g.v 3),.int .i64 (g.v 4),.int .i64 (g.v 5),.int .i64 (g.v 6),.int .i64 (g.v 7)] 105 (b:=w.heap.size + 1) (by simp))
 have l1:=G1.out.cell
 have z1:=G1.out.lt
 have l2:=G2.out.cell
 have z2:=G2.out.lt
 have HB0:=y35h B0
 have CE:=y35h (zoe f.ids g.ids _ _ _ (hT.later B0 (Nat.le_refl _)) (hM.later B0 (Nat.le_refl _)))
 have hq:=fun w'=>show (Op.equalIn 10000 28 (.agg #[.int .i64 (f.v 0),.int .i64 (f.v 1),.int .i64 (f.v 2),.int .i64 (f.v 3),.int .i64 (f.v 4),.int .i64 (f.v 5),.int .i64 (f.v 6),.int .i64 (f.v 7)]) (.agg #[.int .i64 (g.v 0),.int .i64 (g.v 1),.int .i64 (g.v 2),.int .i64 (g.v 3),.int .i64 (g.v 4),.int .i64 (g.v 5),.int .i64 (g.v 6),.int .i64 (g.v 7)])).run Tryz.prog w' = .ok (eqV f.v g.v) w' from zek f.v g.v w'
 unfold eqFr
 clear B0 hT hM
 cases hh:eqV f.v g.v
 · rw [hh] at hq
   go_enter Tryz.func125,Tryz.ntmps125
   go_wp2_with fail
   go_ret
   exact ⟨rfl,HB0.out⟩
 · rw [hh] at hq
   rw [Bool.true_and]
   go_enter Tryz.func125,Tryz.ntmps125
   go_wp2_with (go_at_call 126;refine CE.out.mono ?_;rintro e w3 ⟨rfl,hb3⟩)
   go_ret
   exact ⟨rfl,HB0.out.trans (hb3.mono HB0.out.size)⟩
theorem zks:∀ {l m:List Fr},l.length = m.length → (∀ (j:Nat) (f g:Fr),l[j]? = some f → m[j]? = some g → eqFr f g = true) → zbv l m = true
 | [],[],_,_=>rfl
 | [],b :: m,h,_=>by simp at h
 | a :: l,[],h,_=>by simp at h
 | a :: l,b :: m,h,hh=>by
   rw [zbv,hh 0 a b rfl rfl,Bool.true_and]
   exact zks (by simpa using h) fun j f g hf hg=>hh (j + 1) f g (by simpa using hf) (by simpa using hg)
theorem zmj:∀ {l m:List Fr} {j:Nat} {f g:Fr},l[j]? = some f → m[j]? = some g → eqFr f g = false → zbv l m = false
 | [],m,j,f,g,h,_,_=>by simp at h
 | a :: l,[],j,f,g,_,h,_=>by simp at h
 | a :: l,b :: m,0,f,g,h,h',hq=>by
   simp at h h';subst h h'
   rw [zbv,hq,Bool.false_and]
 | a :: l,b :: m,j + 1,f,g,h,h',hq=>by
   rw [zbv,zmj (l:=l) (m:=m) (by simpa using h) (by simpa using h') hq,Bool.and_false]
theorem zkt:∀ {l m:List Fr},l.length ≠ m.length → zbv l m = false
 | [],[],h=>by simp at h
 | [],b :: m,_=>by simp [zbv]
 | a :: l,[],_=>by simp [zbv]
 | a :: l,b :: m,h=>by rw [zbv,zkt (l:=l) (m:=m) (by simpa using h),Bool.and_false]
def z1o (l m:List Fr) (n:Nat) (w0:World) (i:Value) (wr:World):Prop:=∃ k:Nat,k ≤ n ∧ i = .int .i64 k ∧ Hid (∀ (j:Nat) (f g:Fr),j < k → l[j]? = some f → m[j]? = some g → eqFr f g = true) ∧ Hid (Below w0.heap.size w0 wr)
theorem zod (l m:List Fr) (v v':Value) (w:World) (hR:FrW w l v) (hM:FrW w m v') :
   Calls Tryz.prog 124 #[v,v',.func (Fn.func 125) #[] #[]] w fun e w'=>e = .returned (.bool (zbv l m)) ∧ Below w.heap.size w w':=by
 obtain ⟨U,oa,cap,b,o,rfl,hT⟩:=hR
 obtain ⟨V,oa',cap',b',o',rfl,hM⟩:=hM
 have h1:=hT.len
 have h2:=hT.max
 have h1':=hM.len
 have h2':=hM.max
 unfold maxLen at h2 h2'
 have HT:=y35h hT
 have HM:=y35h hM
 clear hT hM
 by_cases hl:l.length = m.length
 · rw [← hl] at h1' ⊢
   have HL:=y35h hl
   clear hl
   have hne:((l.length:Int) == (l.length:Int)) = true:=by simp
   generalize hn:l.length = n at *
   have HN:=y35h hn
   clear hn
   go_enter Tryz.func124,Tryz.ntmps124
   go_wp2_with fail
   go_loopw [17] (fun i wr=>z1o l m n w i wr) (fun i _=>n - (intOf i).toNat)
   case atStart=>exact ⟨0,Nat.zero_le _,rfl,y35h fun j f g hj=>absurd hj (by omega),y35h (Below.refl _ _)⟩
   case round =>
     obtain ⟨k,hk,rfl,HS,HB⟩:=hrel
     by_cases hlt:k < n
     · obtain ⟨f,hf⟩:∃ f,l[k]? = some f:=⟨_,List.getElem?_eq_getElem (by rw [HN.out];exact hlt)⟩
       obtain ⟨g,hg⟩:∃ g,m[k]? = some g:=⟨_,List.getElem?_eq_getElem (by rw [← HL.out];exact hlt)⟩
       obtain ⟨rfl,hb⟩:=HT.out.at0 (by rw [HN.out];omega)
       obtain ⟨rfl,hb'⟩:=HM.out.at0 (by rw [← HL.out];omega)
       have FL:=HT.out.later HB.out (Nat.le_refl _)
       obtain ⟨c0,c1,c2,c3,c4,c5,c6,c7,c8⟩:=za6 (w:=wr) (fun j u hu=>FL.cell k f hf j u hu)
       have GL:=HM.out.later HB.out (Nat.le_refl _)
       obtain ⟨d0,d1,d2,d3,d4,d5,d6,d7,d8⟩:=za6 (w:=wr) (fun j u hu=>GL.cell k g hg j u hu)
       have z0:b < wr.heap.size:=Nat.lt_of_lt_of_le hb HB.out.size
       have z1:b' < wr.heap.size:=Nat.lt_of_lt_of_le hb' HB.out.size
       have HX:=y35h hf
       have HY:=y35h hg
       obtain ⟨ou,cu,hU⟩:=(HT.out.ids k f hf).val
       obtain ⟨ot,ct,hV⟩:=(HM.out.ids k g hg).val
       have TU:=FL.ids k f hf
       have TV:=GL.ids k g hg
       rw [hU] at c0 TU
       rw [hV] at d0 TV
       have B2:Below wr.heap.size wr ((wr.alloc (.cells #[.slice ou f.ids.length cu,.int .i64 (f.v 0),.int .i64 (f.v 1),.int .i64 (f.v 2),.int .i64 (f.v 3),.int .i64 (f.v 4),.int .i64 (f.v 5),.int .i64 (f.v 6),.int .i64 (f.v 7)] 105)).alloc (.cells #[.slice ot g.ids.length ct,.int .i64 (g.v 0),.int .i64 (g.v 1),.int .i64 (g.v 2),.int .i64 (g.v 3),.int .i64 (g.v 4),.int .i64 (g.v 5),.int .i64 (g.v 6),.int .i64 (g.v 7)] 105)):=((Below.refl _ _).alloc (Nat.le_refl _) _).alloc (by simp) _
       have CC:=y35h (zm9 f g _ _ _ (TU.later B2 (Nat.le_refl _)) (TV.later B2 (Nat.le_refl _)))
       have HB2:=y35h (HB.out.trans (B2.mono HB.out.size))
       have k0:(0:Int) ≤ (k:Int):=by omega
       have k1:(k:Int) < (n:Int):=by omega
       clear FL GL hf hg hU hV TU TV B2 hb hb'
       cases hs:eqFr f g
       · rw [hs] at CC
         have HF:=y35h (zmj HX.out HY.out hs)
         go_wp2_with (go_at_call 125;refine CC.out.mono ?_;rintro e w' ⟨rfl,hb'⟩)
         go_ret
         exact ⟨zaa HF.out.symm,HB2.out.trans (hb'.mono HB2.out.size)⟩
       · rw [hs] at CC
         have HF:=y35h (show ∀ (j:Nat) (p q:Fr),j < k + 1 → l[j]? = some p → m[j]? = some q → eqFr p q = true from fun j p q hj hp hq=>by
           by_cases e:j = k
           · subst e;rw [HX.out] at hp;rw [HY.out] at hq;cases hp;cases hq;exact hs
           · exact HS.out j p q (by omega) hp hq)
         go_wp2_with (go_at_call 125;refine CC.out.mono ?_;rintro e w' ⟨rfl,hb'⟩)
         go_roundw
         case rel=>exact ⟨k + 1,by omega,by go_num,HF,y35h (HB2.out.trans (hb'.mono HB2.out.size))⟩
         case measure=>simp [intOf];omega
     · have HF:=y35h (zks (l:=l) (m:=m) (by rw [HN.out];exact HL.out) fun j f g hf hg=>HS.out j f g (by have:=posA hf;rw [HN.out] at this;omega) hf hg)
       go_wp2_with fail
       go_ret
       exact ⟨zaa HF.out.symm,HB.out⟩
 · have HF:=y35h (zkt hl)
   have hne:((l.length:Int) == (m.length:Int)) = false:=by simp;omega
   clear hl
   go_enter Tryz.func124,Tryz.ntmps124
   go_wp2_with fail
   go_ret
   exact ⟨zaa HF.out.symm,Below.refl _ _⟩
theorem zo4 (a c:Kn) (v v':Value) (w:World) (hR:FrW w a.l v) (hM:FrW w c.l v') :
   Calls Tryz.prog 80 #[knV a.star v,knV c.star v'] w fun e w'=>e = .returned (.bool (zbp a c)) ∧ Below w.heap.size w w':=by
 obtain ⟨ou,cu,rfl⟩:=hR.val
 obtain ⟨ot,ct,rfl⟩:=hM.val
 unfold zbp
 obtain ⟨A,l⟩:=a
 obtain ⟨B,m⟩:=c
 simp only at *
 have B0:Below w.heap.size w ((w.alloc (.cells (knA A (.slice ou l.length cu)) 31)).alloc (.cells (knA B (.slice ot m.length ct)) 31)):=((Below.refl _ _).alloc (Nat.le_refl _) _).alloc (by simp) _
 have G1:=y35h ((Own.new w (knA A (.slice ou l.length cu)) 31).alloc (.cells (knA B (.slice ot m.length ct)) 31))
 have G2:=y35h (Own.newAt (w.alloc (.cells (knA A (.slice ou l.length cu)) 31)) (knA B (.slice ot m.length ct)) 31 (b:=w.heap.size + 1) (by simp))
 have l1:=G1.out.cell
 have z1:=G1.out.lt
 have l2:=G2.out.cell
 have z2:=G2.out.lt
 have HB0:=y35h B0
 have CE:=y35h (zod l m _ _ _ (hR.later B0 (Nat.le_refl _)) (hM.later B0 (Nat.le_refl _)))
 have hq:=fun w'=>show (Op.equalIn 10000 28 (.agg #[.int .i64 (A 0),.int .i64 (A 1),.int .i64 (A 2),.int .i64 (A 3),.int .i64 (A 4),.int .i64 (A 5),.int .i64 (A 6),.int .i64 (A 7)]) (.agg #[.int .i64 (B 0),.int .i64 (B 1),.int .i64 (B 2),.int .i64 (B 3),.int .i64 (B 4),.int .i64 (B 5),.int .i64 (B 6),.int .i64 (B 7)])).run Tryz.prog w' = .ok (eqV A B) w' from zek A B w'
 clear B0 hR hM
 cases hh:eqV A B
 · rw [hh] at hq
   go_enter Tryz.func80,Tryz.ntmps80
   go_wp2_with fail
   go_ret
   exact ⟨rfl,HB0.out⟩
 · rw [hh] at hq
   rw [Bool.true_and]
   go_enter Tryz.func80,Tryz.ntmps80
   go_wp2_with (go_at_call 124;refine CE.out.mono ?_;rintro e w3 ⟨rfl,hb3⟩)
   go_ret
   exact ⟨rfl,HB0.out.trans (hb3.mono HB0.out.size)⟩
theorem zna (K:Kn) (id:ByteArray) (r c:Int) (v:Value) (w:World) (hR:FrW w K.l v) (hid:id.size ≤ maxLen) :
   Calls Tryz.prog 28 #[knV K.star v,.string id,.agg #[.int .i64 r,.int .i64 c]] w fun e w'=>e = .returned (.bool (hasK K id r c)) ∧ Below w.heap.size w w':=by
 obtain ⟨ov,cv,rfl⟩:=hR.val
 unfold hasK
 obtain ⟨A,l⟩:=K
 simp only at *
 have G1:=y35h (((Own.new w (knA A (.slice ov l.length cv)) 31).alloc (.cells #[.string id] 9)).alloc (.cells #[.int .i64 r,.int .i64 c] 67))
 have G2:=y35h ((Own.newAt (w.alloc (.cells (knA A (.slice ov l.length cv)) 31)) #[.string id] 9 (b:=w.heap.size + 1) (by simp)).alloc (.cells #[.int .i64 r,.int .i64 c] 67))
 have G3:=y35h (Own.newAt ((w.alloc (.cells (knA A (.slice ov l.length cv)) 31)).alloc (.cells #[.string id] 9)) #[.int .i64 r,.int .i64 c] 67 (b:=w.heap.size + 1 + 1) (by simp))
 have HB0:=y35h ((((Below.refl w.heap.size w).alloc (Nat.le_refl _) (.cells (knA A (.slice ov l.length cv)) 31)).alloc (by simp) (.cells #[.string id] 9)).alloc (by simp;omega) (.cells #[.int .i64 r,.int .i64 c] 67))
 have HR:=y35h (hR.later HB0.out (Nat.le_refl _))
 have CH:=fun w'=>y35h (zim A r c w')
 clear hR
 cases hh:hasV A r c
 · have CD:=fun w' h=>y35h (zkh (zcx id r c) l (.slice ov l.length cv) (w.heap.size + 1 + 1) (w.heap.size + 1) w' h)
   rw [Bool.false_or]
   go_enter Tryz.func28,Tryz.ntmps28
   go_upto_region 1 with fail
   generalize ((w.alloc (.cells (knA A (.slice ov l.length cv)) 31)).alloc (.cells #[.string id] 9)).alloc (.cells #[.int .i64 r,.int .i64 c] 67) = W at *
   have l1:=G1.out.cell
   have z1:=G1.out.lt
   have l3:=G3.out.cell
   have z3:=G3.out.lt
   have CH1:=CH W
   rw [hh] at CH1
   go_wp2_with (first
     | (go_at_call 60;refine CH1.out.mono ?_;rintro e w3 ⟨rfl,hb3⟩;have l13:=(G1.out.later hb3).cell;have z13:=(G1.out.later hb3).lt;have D:=y35h ((CD w3 (HR.out.later hb3 (Nat.le_refl _))).out fun w' hb' k f u hf hu=>zsg f u r c id _ _ w' hu ((G3.out.later hb3).later hb') ((G2.out.later hb3).later hb')))
     | (go_at_call 61;refine D.out.mono ?_;rintro e w4 ⟨rfl,hb4⟩)
     | fail)
   go_ret
   exact ⟨rfl,HB0.out.trans ((hb3.trans (hb4.mono hb3.size)).mono HB0.out.size)⟩
 · rw [Bool.true_or]
   go_enter Tryz.func28,Tryz.ntmps28
   go_upto_region 1 with fail
   generalize ((w.alloc (.cells (knA A (.slice ov l.length cv)) 31)).alloc (.cells #[.string id] 9)).alloc (.cells #[.int .i64 r,.int .i64 c] 67) = W at *
   have l1:=G1.out.cell
   have z1:=G1.out.lt
   have l3:=G3.out.cell
   have z3:=G3.out.lt
   have CH1:=CH W
   rw [hh] at CH1
   go_wp2_with (go_at_call 60;refine CH1.out.mono ?_;rintro e w3 ⟨rfl,hb3⟩)
   go_ret
   exact ⟨rfl,HB0.out.trans (hb3.mono HB0.out.size)⟩
end Go.Proofs.YthnllikalobmeaaGreat
