/- Joined: RefSt3, KConc, RefSt4, OpenSt. -/
import Derived.Test.YthnllikalobmeaaGreatJ26
import Derived.Test.YthnllikalobmeaaGreatJ15
import Derived.Shelf.Spec.SlicesGrow
import Derived.Lib.AppendZeros
import Derived.Test.YthnllikalobmeaaGreatJ16
import Derived.Test.YthnllikalobmeaaGreatJ12
import Derived.Test.YthnllikalobmeaaGreatJ23
namespace Go.Proofs.YthnllikalobmeaaGreat
set_option linter.unusedVariables false
set_option linter.unusedSimpArgs false
set_option maxRecDepth 100000
set_option maxHeartbeats 8000000
open Go.RowKit
theorem y27h {p:Prop} (h:p):Hid p:=Lib.hid h
def zhg (s:St):List Itm:=s.store.filter (fun i=>!i.d)
theorem MkS.grown {w wr w':World} {X:Array Value} (h:MkS w X wr) {l:List Itm} {v:Value} (ho:OwnI wr (w.heap.size + 1) l v) (hg:wr.grownBy w' v.ownBlock):MkS w X w' :=
 have hb:Below (w.heap.size + 1) wr w':=(Below.refl _ _).grown hg (by have:=h.o1.lt;omega) fun k hk=>by have:=(World.ownsRow.lt ho k hk).1;omega
 ⟨h.o1.below hb (by omega),h.bel.trans (hb.mono (by omega))⟩
def growA_ren:Go.Shelf.Ren:=⟨fun | 4=>171 | n=>n,
 fun | 22=>29 | 25=>105 | 3=>3 | 4=>4 | 9=>9 | 20=>20 | 0=>0 | n=>n,
 fun | n=>n⟩
theorem zug:Go.Proofs.Lays8.n4 Tryz.prog growA_ren:={
 mixed:=by kernel_rfl,
 f4:=⟨Tryz.f171.name,by decide,Tryz.func171.trans (congrArg some (by kernel_rfl))⟩,
 t0:=Tryz.underlying0,
 a0:=Tryz.isAgg0,
 z0:=Tryz.sizeOf0,
 v0:=Tryz.zeroValue0,
 t3:=Tryz.underlying3,
 a3:=Tryz.isAgg3,
 z3:=Tryz.sizeOf3,
 v3:=Tryz.zeroValue3,
 t4:=Tryz.underlying4,
 a4:=Tryz.isAgg4,
 z4:=Tryz.sizeOf4,
 v4:=Tryz.zeroValue4,
 t9:=Tryz.underlying9,
 a9:=Tryz.isAgg9,
 z9:=Tryz.sizeOf9,
 v9:=Tryz.zeroValue9,
 t20:=Tryz.underlying20,
 a20:=Tryz.isAgg20,
 z20:=Tryz.sizeOf20,
 v20:=Tryz.zeroValue20,
 t22:=Tryz.underlying29,
 a22:=Tryz.isAgg29,
 z22:=Tryz.sizeOf29,
 v22:=Tryz.zeroValue29 }
theorem zpg (n:Nat) (hn:n ≤ 20000) (w:World) :
   Calls Tryz.prog 171 #[.slice none 0 0,.int .i64 n] w fun e w'=>∃ v,e = .returned v ∧ w'.ownsRow w.heap.size 105 9 v 0 [] ∧ Below w.heap.size w w':=by
 obtain ⟨j0,hj,hy0,hy1,hy2⟩:=info_parts zc5
 by_cases h0:n = 0
 · subst h0
   refine (Any8.slices_Grow_room zug none 0 0 0 w (by omega) (by omega) (by omega) (by omega)).mono ?_
   rintro e w' ⟨rfl,rfl⟩
   exact ⟨_,rfl,World.ownsRow_nil _ _ _ _,Below.refl _ _⟩
 · refine (Any8.slices_Grow_grow zug j0 _ hj hy0 (by rw [hy1];omega) none 0 0 n [] w (by omega) (by omega) (by rw [hy2];omega) (by omega) (by simp) (fun _=>rfl) (fun a h=>by cases h)).mono ?_
   rintro e w' ⟨rfl,rfl⟩
   have hge:=grownCap_ge w (0 + n) 0 (growA_ren.t 25)
   have hle:=grownCap_le_maxLen w (0 + n) 0 (growA_ren.t 25) (by unfold maxLen;omega)
   refine ⟨_,rfl,⟨by simp,.inr ⟨w.heap.size,_,_,rfl,Nat.le_refl _,heap_alloc_new w.drew _,by omega,hle,?_,by simp⟩⟩,(Below.refl _ _).drew.alloc (Nat.le_refl _) _⟩
   simp only [Array.size_append,List.size_toArray,size_zeroCells,List.length_nil,Nat.zero_add,Nat.sub_zero]
   rw [← Nat.add_mul]
   rw [show (Value.cells (.agg #[.slice none 0 0,.int .i64 0,.int .i64 0,.int .i64 0,.int .i64 0,.int .i64 0,.int .i64 0,.int .i64 0,.int .i64 0])).size = 9 from rfl]
   congr 1
   simp only [Nat.zero_add] at hge
   omega
theorem zkx (a:Addr) (w:World):(storeCells a []).run Tryz.prog w = .ok () w:=by simp [storeCells]
theorem zjj (ty:TypeId) (base oa:Option Addr) (n cap c:Nat) (hn:n ≤ cap) (w:World) :
   (Builtin.append_ #[29,29] ty #[.slice base n cap,.slice oa 0 c]).run Tryz.prog w = .ok (.slice base n cap) w:=by
 obtain ⟨j0,hj,hy0,hy1,hy2⟩:=info_parts zc5
 have hf:(Builtin.firstCells j0.size 0 (.slice oa 0 c)).run Tryz.prog w = .ok #[] w:=by
   cases oa with
   | none=>exact run_firstCells_none w _ _ _ _
   | some a=>exact run_firstCells_some w j0.size 0 a 0 c [] (by simp) (fun j v h=>by simp at h)
 cases base with
 | none=>simp [Builtin.append_,run_underlying Tryz.underlying29,sizeOf,typeInfo,hj,Builtin.lenOf,hn,hf,Result.andThen]
 | some a=>simp [Builtin.append_,run_underlying Tryz.underlying29,sizeOf,typeInfo,hj,Builtin.lenOf,hn,hf,zkx,Result.andThen]
theorem zkg {w:World} {l:List Fr} {U:Nat → Value} {oa:Option Addr} {cap b o:Nat} (h:FrAt w l U oa cap b o):∀ j u,(frCs U 0 l)[j]? = some u → w.cell? ((⟨b,o,none⟩:Addr).add j) = some u:=by
 intro j u hu
 have hj:j < (frCs U 0 l).length:=(List.getElem?_eq_some_iff.1 hu).1
 rw [zdn] at hj
 obtain ⟨i,r,hr,rfl⟩:∃ i r,r < 9 ∧ j = i * 9 + r:=⟨j / 9,j % 9,Nat.mod_lt _ (by omega),by omega⟩
 obtain ⟨f,hf⟩:∃ f,l[i]? = some f:=⟨_,List.getElem?_eq_getElem (by omega)⟩
 rw [zcg U 0 l i f hf r hr,Nat.zero_add] at hu
 have:=h.cell i f hf r u hu
 rw [← this]
 by_cases e:i * 9 + r = 0
 · obtain ⟨rfl,rfl⟩:i = 0 ∧ r = 0:=by omega
   simp [Addr.add]
 · simp only [Addr.add]
   first | rw [if_neg e,Nat.add_assoc] | (rw [Nat.add_assoc];split <;> first | rfl | omega) | (simp [Nat.add_assoc];intro h1 h2;omega)
theorem zkp {w:World} {l:List Fr} {U:Nat → Value} {oa:Option Addr} {cap b o:Nat} (h:FrAt w l U oa cap b o):∀ u ∈ frCs U 0 l,u.oneCell' = true:=by
 intro u hu
 obtain ⟨j,hj⟩:=List.getElem?_of_mem hu
 have hlt:j < (frCs U 0 l).length:=(List.getElem?_eq_some_iff.1 hj).1
 rw [zdn] at hlt
 obtain ⟨i,r,hr,rfl⟩:∃ i r,r < 9 ∧ j = i * 9 + r:=⟨j / 9,j % 9,Nat.mod_lt _ (by omega),by omega⟩
 obtain ⟨f,hf⟩:∃ f,l[i]? = some f:=⟨_,List.getElem?_eq_getElem (by omega)⟩
 rw [zcg U 0 l i f hf r hr,Nat.zero_add] at hj
 obtain ⟨oq,cq,e⟩:=(h.ids i f hf).val
 exact oneF f (by rw [e];rfl) u (List.mem_of_getElem? hj)
theorem zih (ty:TypeId) {w:World} {base n:Nat} {v sv:Value} {xs:List Value} {l:List Fr} (hown:w.ownsRow base 105 9 v n xs) {U:Nat → Value} {oa:Option Addr} {cap b o:Nat} (hsv:sv = .slice oa l.length cap) (h:FrAt w l U oa cap b o)
   (hn:n + l.length ≤ 30000) (hbase:base ≤ w.heap.size) :
   ∃ v' w',(Builtin.append_ #[29,29] ty #[v,sv]).run Tryz.prog w = .ok v' w' ∧ w'.ownsRow base 105 9 v' (n + l.length) (xs ++ frCs U 0 l) ∧ w.grownBy w' v.ownBlock:=by
 subst hsv
 obtain ⟨j0,hj,hy0,hy1,hy2⟩:=info_parts zc5
 by_cases h0:l.length = 0
 · have e:l = []:=List.length_eq_zero_iff.1 h0
   subst e
   obtain ⟨ov,cv,gv,e,h1,_⟩:=zan hown
   subst e
   refine ⟨_,w,zjj ty ov oa n cv cap h1 w,?_,⟨rfl,rfl,rfl,Nat.le_refl _,fun _ _ _=>rfl⟩⟩
   simpa [frCs] using hown
 · obtain ⟨rfl,hb⟩:=h.at0 (by omega)
   obtain ⟨v',w',r1,r2,r3,_⟩:=run_append_own w base 29 ty 105 j0 _ 9 88 Tryz.underlying29 hj hy0 hy1 hy2 rfl (by omega) v n xs hown ⟨b,o,none⟩ l.length cap (frCs U 0 l) (zdn U 0 l) (zkg h) (zkp h) (by unfold maxLen;omega) (by omega) hbase
   exact ⟨v',w',r1,r2,r3⟩
theorem zp3 {w:World} {base:Nat} {l:List Fr} {U:Nat → Value} {v:Value} (h:w.ownsRow base 105 9 v l.length (frCs U 0 l)) (hi:∀ k f,l[k]? = some f → TxW w f.ids (U k)):FrW w l v:=by
 obtain ⟨oa,cap,g,e,h1,h2,hg⟩:=zan h
 subst e
 refine ⟨U,oa,cap,g,0,rfl,h1,h2,fun h0=>⟨(hg h0).1,(hg h0).2.2⟩,fun k f hf j u hu=>?_,hi⟩
 obtain ⟨rfl,_⟩:=hg (by have:=posA hf;omega)
 have hj:j < 9:=(List.getElem?_eq_some_iff.1 hu).1
 have hk:=posA hf
 rw [Nat.zero_add,h.cellAt (k * 9 + j) (by omega),zcg _ _ _ _ _ hf _ hj,Nat.zero_add]
 exact hu
def zdu (U V:Nat → Value) (n:Nat):Nat → Value:=fun i=>if i < n then U i else V (i - n)
theorem znf (U V:Nat → Value) (l m:List Fr):frCs U 0 l ++ frCs V 0 m = frCs (zdu U V l.length) 0 (l ++ m):=by
 rw [zh7,Nat.zero_add]
 congr 1
 · exact zfw fun i hi=>by simp [zdu,hi]
 · have:∀ (s t:Nat) (q:List Fr),(∀ i,i < q.length → V (t + i) = zdu U V l.length (s + i)) → frCs V t q = frCs (zdu U V l.length) s q:=by
     intro s t q
     induction q generalizing s t with
     | nil=>intro _;rfl
     | cons p q ih =>
       intro h
       rw [frCs,frCs,show V t = zdu U V l.length s from h 0 (by simp),ih (s + 1) (t + 1) fun i hi=>by have:=h (i + 1) (by simp;omega);rwa [show t + (i + 1) = t + 1 + i by omega,show s + (i + 1) = s + 1 + i by omega] at this]
   exact this l.length 0 m fun i hi=>by
     unfold zdu;rw [if_neg (by omega),Nat.zero_add,Nat.add_sub_cancel_left]
structure Srcs (w:World) (L:Nat → List Fr) (V:Nat → Value) (U:Nat → Nat → Value) (bs:Nat):Prop where
 lt:bs < w.heap.size
 cell:∀ k,k < 2 → w.cell? ⟨bs,k,none⟩ = some (V k)
 lies:∀ k,k < 2 → ∃ oa cap b o,V k = .slice oa (L k).length cap ∧ FrAt w (L k) (U k) oa cap b o
 len:(L 0).length + (L 1).length ≤ 20000
def totL (L:Nat → List Fr):Nat → Nat
 | 0=>0
 | k + 1=>totL L k + (L k).length
def totC (L:Nat → List Fr) (U:Nat → Nat → Value):Nat → List Value
 | 0=>[]
 | k + 1=>totC L U k ++ frCs (U k) 0 (L k)
theorem Srcs.tot {w:World} {L:Nat → List Fr} {V:Nat → Value} {U:Nat → Nat → Value} {bs:Nat} (h:Srcs w L V U bs):∀ k,k ≤ 2 → totL L k ≤ 20000:=by
 intro k hk
 have:=h.len
 obtain rfl | rfl | rfl:k = 0 ∨ k = 1 ∨ k = 2:=by omega
 · simp [totL]
 · simp only [totL];omega
 · simp only [totL];omega
def zus (L:Nat → List Fr) (w0:World) (s i:Value) (wr:World):Prop:=∃ k:Nat,k ≤ 2 ∧ i = .int .i64 k ∧ s = .int .i64 (totL L k) ∧ Hid (w0 = wr)
def zqf (L:Nat → List Fr) (U:Nat → Nat → Value) (w0:World) (v i:Value) (wr:World):Prop :=
 ∃ k:Nat,k ≤ 2 ∧ i = .int .i64 k ∧ Hid (wr.ownsRow w0.heap.size 105 9 v (totL L k) (totC L U k)) ∧ Hid (Below w0.heap.size w0 wr)
theorem znk (L:Nat → List Fr) (V:Nat → Value) (U:Nat → Nat → Value) (bs:Nat) (w:World) (hS:Srcs w L V U bs) :
   Calls Tryz.prog 146 #[.slice (some ⟨bs,0,none⟩) 2 2] w fun e w'=>∃ v,e = .returned v ∧ w'.ownsRow w.heap.size 105 9 v (totL L 2) (totC L U 2) ∧ Below w.heap.size w w':=by
 have HS:=y27h hS
 have G:=fun w'=>y27h (zpg (totL L 2) (HS.out.tot 2 (by omega)) w')
 clear hS
 go_enter Tryz.func146,Tryz.ntmps146
 go_wp2_with fail
 go_loopw [3,11] (fun s i wr=>zus L w s i wr) (fun _ i _=>2 - (intOf i).toNat)
 case atStart=>exact ⟨0,by omega,rfl,rfl,rfl⟩
 case round =>
   obtain ⟨k,hk,rfl,rfl,hw⟩:=hrel
   have ew:=hw.out
   subst ew
   clear hw
   by_cases hlt:k < 2
   · obtain ⟨oa,cap,b,o,hV,hF⟩:=HS.out.lies k hlt
     have cv:=HS.out.cell k hlt
     rw [hV] at cv
     have zb:=HS.out.lt
     have t1:=HS.out.tot k hk
     have t2:=HS.out.tot (k + 1) (by omega)
     have t3:totL L (k + 1) = totL L k + (L k).length:=rfl
     have k0:(0:Int) ≤ (k:Int):=by omega
     have k1:(k:Int) < 2:=by omega
     have hq:((L k).length:Int) ≤ 20000:=by omega
     have hq0:(0:Int) ≤ ((L k).length:Int):=by omega
     have HT:=y27h t3
     clear t2 t3 hV hF
     generalize (L k).length = m at *
     generalize ht:totL L k = t at *
     have hneg:decide (((t:Int) + (m:Int)) < 0) = false:=decide_eq_false (by omega)
     go_wp2_with fail
     go_roundw
     case rel=>exact ⟨k + 1,by omega,by go_num,by rw [HT.out];go_num,rfl⟩
     case measure=>simp [intOf];omega
   · have e:k = 2:=by omega
     subst e
     go_wp2_with (go_at_call 171;refine (G _).out.mono ?_;rintro e w1 ⟨v0,rfl,hr0,hb0⟩)
     have C0:zqf L U w v0 (.int .i64 0) w1:=⟨0,by omega,rfl,hr0,hb0⟩
     clear hr0 hb0
     go_loopw [6,27] (fun v i wr=>zqf L U w v i wr) (fun _ i _=>2 - (intOf i).toNat)
     case atStart=>exact C0
     case round =>
       clear C0
       obtain ⟨k,hk,rfl,HR,HB⟩:=hrel
       by_cases hlt:k < 2
       · obtain ⟨oa,cap,b,o,hV,hF⟩:=HS.out.lies k hlt
         have cv:=(HB.out.cell (p:=⟨bs,k,none⟩) HS.out.lt).trans (HS.out.cell k hlt)
         rw [hV] at cv
         have zb:bs < wr.heap.size:=Nat.lt_of_lt_of_le HS.out.lt HB.out.size
         have t1:=HS.out.tot (k + 1) (by omega)
         simp only [totL] at t1
         have k0:(0:Int) ≤ (k:Int):=by omega
         have k1:(k:Int) < 2:=by omega
         have hF':=hF.later HB.out (Nat.le_refl _)
         have AP:=fun ty=>zih ty HR.out rfl hF' (by omega) HB.out.size
         have HA:=y27h AP
         obtain ⟨ov,cvv,gv,rfl,_,_,_⟩:=zan HR.out
         clear hF hF' AP hV
         go_wp2_with (at_builtin;obtain ⟨v',w',hrun,hown,hgr⟩:=HA.out _;refine Lib.wpList_append_run _ rfl _ _ _ _ rfl _ _ rfl rfl _ _ hrun ?_)
         have HB2:=y27h (HB.out.grown hgr HB.out.size fun q hq=>(World.ownsRow.lt HR.out q hq).1)
         go_roundw
         case rel=>exact ⟨k + 1,by omega,by go_num,hown,HB2⟩
         case measure=>simp [intOf];omega
       · have e:k = 2:=by omega
         subst e
         go_wp2_with fail
         go_ret
         exact ⟨_,rfl,HR.out,HB.out⟩
theorem zpa (l m:List Fr) (U0 U1:Nat → Value) (oa oa':Option Addr) (cap cap' b b' o o':Nat) (bs:Nat) (w:World) (hlt:bs < w.heap.size) (c0:w.cell? ⟨bs,0,none⟩ = some (.slice oa l.length cap)) (c1:w.cell? ⟨bs,1,none⟩ = some (.slice oa' m.length cap')) (h0:FrAt w l U0 oa cap b o) (h1:FrAt w m U1 oa' cap' b' o') (hlen:l.length + m.length ≤ 20000) :
   Calls Tryz.prog 146 #[.slice (some ⟨bs,0,none⟩) 2 2] w fun e w'=>∃ u,e = .returned u ∧ w'.ownsRow w.heap.size 105 9 u (l ++ m).length (frCs (zdu U0 U1 l.length) 0 (l ++ m)) ∧ Below w.heap.size w w':=by
 refine (znk (fun k=>if k = 0 then l else m) (fun k=>if k = 0 then .slice oa l.length cap else .slice oa' m.length cap') (fun k=>if k = 0 then U0 else U1) bs w ⟨hlt,fun k hk=>?_,fun k hk=>?_,by simpa using hlen⟩).mono ?_
 · obtain rfl | rfl:k = 0 ∨ k = 1:=by omega
   · simpa using c0
   · simpa using c1
 · obtain rfl | rfl:k = 0 ∨ k = 1:=by omega
   · exact ⟨_,_,_,_,rfl,h0⟩
   · exact ⟨_,_,_,_,rfl,h1⟩
 · rintro e w' ⟨u,rfl,hr,hb⟩
   refine ⟨u,rfl,?_,hb⟩
   simp only [totL,totC] at hr
   simp only [if_pos,List.nil_append,Nat.zero_add,show ((1:Nat) = 0) = False by simp,if_false,if_true] at hr
   rw [znf,← List.length_append] at hr
   exact hr
theorem zwd {w:World} {base:Nat} {l m:List Fr} {U0 U1:Nat → Value} {u:Value} (h:w.ownsRow base 105 9 u (l ++ m).length (frCs (zdu U0 U1 l.length) 0 (l ++ m))) (h0:∀ k f,l[k]? = some f → TxW w f.ids (U0 k)) (h1:∀ k f,m[k]? = some f → TxW w f.ids (U1 k)):FrW w (l ++ m) u:=by
 refine zp3 h fun k f hf=>?_
 by_cases hk:k < l.length
 · rw [List.getElem?_append_left hk] at hf
   simp only [zdu,hk,if_true]
   exact h0 k f hf
 · rw [List.getElem?_append_right (by omega)] at hf
   simp only [zdu,hk,if_false]
   exact h1 _ f hf
def zad (s:St) (id:ByteArray):Itm × Bool:=getI (zao behT s.store s.out) id
theorem ze5 (s:St) (fv sv ov kv:Value) (id:ByteArray) (w:World) (hS:StW w s fv sv ov kv) (h1:s.store.length ≤ 1000) (h2:s.out.length ≤ 1000) :
   Calls Tryz.prog 25 #[stV s fv sv ov kv,.string id] w fun e w'=>e = .returned (.tuple #[iV (zad s id).1,.bool (zad s id).2]) ∧ Below w.heap.size w w':=by
 have OA:=y27h ((Own.new w (stA s fv sv ov kv) 43).alloc (.cells #[.string ⟨#[]⟩,.int .i64 0,.int .i64 0,.int .i64 0,.string ⟨#[]⟩,.int .i64 0,.complex .f64 0 0,.bool false] 69))
 have OH:=y27h (Own.newAt (w.alloc (.cells (stA s fv sv ov kv) 43)) #[.string ⟨#[]⟩,.int .i64 0,.int .i64 0,.int .i64 0,.string ⟨#[]⟩,.int .i64 0,.complex .f64 0 0,.bool false] 69 (b:=w.heap.size + 1) (by simp))
 have BEL:=y27h (((Below.refl w.heap.size w).alloc (Nat.le_refl _) (.cells (stA s fv sv ov kv) 43)).alloc (by simp) (.cells #[.string ⟨#[]⟩,.int .i64 0,.int .i64 0,.int .i64 0,.string ⟨#[]⟩,.int .i64 0,.complex .f64 0 0,.bool false] 69))
 have LS:=y27h ((hS.alloc (.cells (stA s fv sv ov kv) 43)).alloc (.cells #[.string ⟨#[]⟩,.int .i64 0,.int .i64 0,.int .i64 0,.string ⟨#[]⟩,.int .i64 0,.complex .f64 0 0,.bool false] 69))
 clear hS
 have CB:=fun w' h h'=>y27h (zo3 behT zo1 s.store s.out sv ov w' h h' h1 h2)
 have CG:=fun v w' h=>y27h (zeo (zao behT s.store s.out) id v w' h)
 unfold zad
 generalize getI (zao behT s.store s.out) id = gg at *
 obtain ⟨g,gb⟩:=gg
 simp only at CG ⊢
 generalize zao behT s.store s.out = B at *
 clear h1 h2
 have lOA:=OA.out.cell
 have zOA:=OA.out.lt
 go_enter Tryz.func25,Tryz.ntmps25
 go_wp2_with (first | (go_at_call 58;with_reducible refine (CB _ LS.out.ls LS.out.lo).out.mono ?_;rintro e w1 ⟨v2,rfl,hr,hb⟩;have LB:=y27h hr;replace OA:=y27h (OA.out.later hb);replace OH:=y27h (OH.out.later hb);replace BEL:=y27h (BEL.out.trans (hb.mono BEL.out.size));clear hr hb lOA zOA) | (go_at_call 27;with_reducible refine (CG _ _ LB.out).out.mono ?_;rintro e w2 ⟨rfl,hb⟩;replace OH:=y27h (OH.out.later hb);replace BEL:=y27h (BEL.out.trans (hb.mono BEL.out.size));clear hb;have l1:=OH.out.cell;have f1:=OH.out.free;have z1:=OH.out.lt) | fail)
 have key:=And.intro (zcf OH.out (.string g.id) (.int .i64 g.r) (.int .i64 g.c) (.int .i64 g.st) (.string g.kd) (.int .i64 g.num) (.complex .f64 g.x g.y) (.bool g.d)) (zbq (b:=w.heap.size + 1) BEL.out (by omega) (.string g.id) (.int .i64 g.r) (.int .i64 g.c) (.int .i64 g.st) (.string g.kd) (.int .i64 g.num) (.complex .f64 g.x g.y) (.bool g.d))
 clear l1 f1 z1
 unfold st8 at key
 revert key
 generalize World.setCell (World.setCell (World.setCell (World.setCell (World.setCell (World.setCell (World.setCell (World.setCell _ _ _) _ _) _ _) _ _) _ _) _ _) _ _) _ _ = WW
 rintro ⟨of,bf⟩
 have lf:=of.cell
 refine bodyPost_ret (v:=.tuple #[iV g,.bool gb]) (by simp [results,Tryz.results25,go_sem,lf]) rfl ⟨rfl,bf⟩
end Go.Proofs.YthnllikalobmeaaGreat
namespace Go.Proofs.YthnllikalobmeaaGreat
set_option linter.unusedVariables false
set_option linter.unusedSimpArgs false
set_option maxRecDepth 100000
set_option maxHeartbeats 8000000
open Go.ChangeShapes Go.WideShapes Go.ChangeAt Go.RowKit Go.Deep
abbrev siL (s:St) (fv sv ov kv:Value):List Value:=[.int .i64 s.r,.int .i64 s.f.op,.string s.f.text,.int .i64 s.f.n,.float .f64 s.f.x,.float .f64 s.f.y,fv,sv,ov,.int .i64 (s.k.star 0),.int .i64 (s.k.star 1),.int .i64 (s.k.star 2),.int .i64 (s.k.star 3),.int .i64 (s.k.star 4),.int .i64 (s.k.star 5),.int .i64 (s.k.star 6),.int .i64 (s.k.star 7),kv,.int .i64 s.count,.int .i64 s.clock,.int .i64 s.epoch]
abbrev siV (s:St) (fv sv ov kv:Value):Value:=.agg #[.int .i64 s.r,.int .i64 s.f.op,.string s.f.text,.int .i64 s.f.n,.float .f64 s.f.x,.float .f64 s.f.y,fv,sv,ov,.int .i64 (s.k.star 0),.int .i64 (s.k.star 1),.int .i64 (s.k.star 2),.int .i64 (s.k.star 3),.int .i64 (s.k.star 4),.int .i64 (s.k.star 5),.int .i64 (s.k.star 6),.int .i64 (s.k.star 7),kv,.int .i64 s.count,.int .i64 s.clock,.int .i64 s.epoch]
structure SiW (w:World) (s:St) (fv sv ov kv:Value):Prop where
 lf:LT w s.f fv
 ls:Row 9 rc w s.store sv
 lo:Row 9 rc w s.out ov
 lk:FrW w s.k.l kv
theorem SiW.later {w w':World} {s:St} {fv sv ov kv:Value} (h:SiW w s fv sv ov kv) (hb:Below w.heap.size w w'):SiW w' s fv sv ov kv :=
 ⟨h.lf.later hb (Nat.le_refl _),h.ls.later hb,h.lo.later hb,h.lk.later hb (Nat.le_refl _)⟩
theorem SiW.alloc {w:World} {s:St} {fv sv ov kv:Value} (h:SiW w s fv sv ov kv) (o:Obj):SiW (w.alloc o) s fv sv ov kv:=h.later ((Below.refl _ _).alloc (Nat.le_refl _) _)
theorem SiW.drew {w:World} {s:St} {fv sv ov kv:Value} (h:SiW w s fv sv ov kv):SiW w.drew s fv sv ov kv:=h.later (Below.refl _ _).drew
structure De where
 what:Int
 id:ByteArray
 kd:ByteArray
 num:Int
 x:Nat
 y:Nat
 f:Pr
abbrev deL (d:De) (fv:Value):List Value:=[.int .i64 d.what,.string d.id,.string d.kd,.int .i64 d.num,.float .f64 d.x,.float .f64 d.y,.int .i64 d.f.op,.string d.f.text,.int .i64 d.f.n,.float .f64 d.f.x,.float .f64 d.f.y,fv]
abbrev deV (d:De) (fv:Value):Value:=.agg #[.int .i64 d.what,.string d.id,.string d.kd,.int .i64 d.num,.float .f64 d.x,.float .f64 d.y,.int .i64 d.f.op,.string d.f.text,.int .i64 d.f.n,.float .f64 d.f.x,.float .f64 d.f.y,fv]
structure DeW (w:World) (d:De) (fv:Value):Prop where
 lf:LT w d.f fv
 id:d.id.size ≤ maxLen
 kd:d.kd.size ≤ maxLen
 what:-9223372036854775808 ≤ d.what ∧ d.what ≤ 9223372036854775807
theorem DeW.later {w w':World} {d:De} {fv:Value} (h:DeW w d fv) (hb:Below w.heap.size w w'):DeW w' d fv:=⟨h.lf.later hb (Nat.le_refl _),h.id,h.kd,h.what⟩
section
variable {H:Type} {enc:TypeId × Value → H} {w:World} {base:Nat} {spare:Nat → Bool} {held:Bool} {fuel:Nat} {cs:List Value} {x:DataW H × List MemPlace}
theorem zsf (h:DataW.trod enc Tryz.prog w base spare held fuel 31 cs = some x):∃ (K:Kn) (u:Value),cs = [.int .i64 (K.star 0),.int .i64 (K.star 1),.int .i64 (K.star 2),.int .i64 (K.star 3),.int .i64 (K.star 4),.int .i64 (K.star 5),.int .i64 (K.star 6),.int .i64 (K.star 7),u] ∧ FrW w K.l u:=by
 obtain ⟨xs,n,hn,hx,hl,hxl,hf⟩:=DataW.trod_struct Tryz.underlying31 h
 have hl':cs.length = 9:=hl.trans (by kernel_rfl)
 have hxl':xs.length = 2:=hxl.trans (by kernel_rfl)
 have h0:DataW.trod enc Tryz.prog w base spare held n 28 ((cs.drop 0).take (Tryz.prog.cellsOf 28)) = xs[0]?:=hf 0 _ rfl
 have h1:DataW.trod enc Tryz.prog w base spare held n 29 ((cs.drop 8).take (Tryz.prog.cellsOf 29)) = xs[1]?:=hf 1 _ rfl
 rw [show Tryz.prog.cellsOf 28 = 8 by kernel_rfl,List.getElem?_eq_getElem (by omega)] at h0
 rw [show Tryz.prog.cellsOf 29 = 1 by kernel_rfl,List.getElem?_eq_getElem (by omega)] at h1
 match cs,hl' with
 | [c0,c1,c2,c3,c4,c5,c6,c7,c8],_ =>
   obtain ⟨A,e'⟩:=zm7 h0
   obtain ⟨l,u,e,ht⟩:=zqb h1
   simp at e e'
   obtain ⟨e1,e2,e3,e4,e5,e6,e7,e8⟩:=e'
   subst e e1 e2 e3 e4 e5 e6 e7 e8
   exact ⟨⟨A,l⟩,_,rfl,ht⟩
theorem zt9 (h:DataW.trod enc Tryz.prog w base spare held fuel 33 cs = some x):∃ (s:St) (fv sv ov kv:Value),cs = siL s fv sv ov kv ∧ SiW w s fv sv ov kv:=by
 obtain ⟨xs,n,hn,hx,hl,hxl,hf⟩:=DataW.trod_struct Tryz.underlying33 h
 have hl':cs.length = 21:=hl.trans (by kernel_rfl)
 have hxl':xs.length = 8:=hxl.trans (by kernel_rfl)
 have g0:DataW.trod enc Tryz.prog w base spare held n 3 ((cs.drop 0).take (Tryz.prog.cellsOf 3)) = xs[0]?:=hf 0 _ rfl
 have g1:DataW.trod enc Tryz.prog w base spare held n 25 ((cs.drop 1).take (Tryz.prog.cellsOf 25)) = xs[1]?:=hf 1 _ rfl
 have g2:DataW.trod enc Tryz.prog w base spare held n 26 ((cs.drop 7).take (Tryz.prog.cellsOf 26)) = xs[2]?:=hf 2 _ rfl
 have g3:DataW.trod enc Tryz.prog w base spare held n 26 ((cs.drop 8).take (Tryz.prog.cellsOf 26)) = xs[3]?:=hf 3 _ rfl
 have g4:DataW.trod enc Tryz.prog w base spare held n 31 ((cs.drop 9).take (Tryz.prog.cellsOf 31)) = xs[4]?:=hf 4 _ rfl
 have g5:DataW.trod enc Tryz.prog w base spare held n 3 ((cs.drop 18).take (Tryz.prog.cellsOf 3)) = xs[5]?:=hf 5 _ rfl
 have g6:DataW.trod enc Tryz.prog w base spare held n 3 ((cs.drop 19).take (Tryz.prog.cellsOf 3)) = xs[6]?:=hf 6 _ rfl
 have g7:DataW.trod enc Tryz.prog w base spare held n 3 ((cs.drop 20).take (Tryz.prog.cellsOf 3)) = xs[7]?:=hf 7 _ rfl
 rw [show Tryz.prog.cellsOf 3 = 1 by kernel_rfl,List.getElem?_eq_getElem (by omega)] at g0 g5 g6 g7
 rw [show Tryz.prog.cellsOf 25 = 6 by kernel_rfl,List.getElem?_eq_getElem (by omega)] at g1
 rw [show Tryz.prog.cellsOf 26 = 1 by kernel_rfl,List.getElem?_eq_getElem (by omega)] at g2 g3
 rw [show Tryz.prog.cellsOf 31 = 9 by kernel_rfl,List.getElem?_eq_getElem (by omega)] at g4
 match cs,hl' with
 | [c0,c1,c2,c3,c4,c5,c6,c7,c8,c9,c10,c11,c12,c13,c14,c15,c16,c17,c18,c19,c20],_ =>
   obtain ⟨z0,k0,_⟩:=DataW.trod_int Tryz.underlying3 g0
   obtain ⟨q,kq,k1,hq⟩:=zkz n _ _ g1
   obtain ⟨l2,v2,k2,r2⟩:=zky g2
   obtain ⟨l3,v3,k3,r3⟩:=zky g3
   obtain ⟨K,ku,k4,r4⟩:=zsf g4
   obtain ⟨z5,k5,_⟩:=DataW.trod_int Tryz.underlying3 g5
   obtain ⟨z6,k6,_⟩:=DataW.trod_int Tryz.underlying3 g6
   obtain ⟨z7,k7,_⟩:=DataW.trod_int Tryz.underlying3 g7
   simp [tc] at k0 k1 k2 k3 k4 k5 k6 k7
   obtain ⟨a1,a2,a3,a4,a5,a6⟩:=k1
   obtain ⟨b1,b2,b3,b4,b5,b6,b7,b8,b9⟩:=k4
   subst k0 a1 a2 a3 a4 a5 a6 k2 k3 b1 b2 b3 b4 b5 b6 b7 b8 b9 k5 k6 k7
   exact ⟨⟨z0,q,l2,l3,K,z5,z6,z7⟩,_,_,_,_,rfl,hq,r2,r3,r4⟩
theorem ztq {r:Reach} {b0:Nat} {v:Value} {d:DataW H} {p:List MemPlace} (hv:Value.okWide Tryz.prog w r b0 33 v) (h:DataW.Trod enc Tryz.prog w base spare held 33 v d p) :
   ∃ (s:St) (fv sv ov kv:Value),v = siV s fv sv ov kv ∧ SiW w s fv sv ov kv:=by
 obtain ⟨l,rfl,hsz⟩:=okWide_struct Tryz.underlying33 hv
 obtain ⟨f,hf⟩:=h
 obtain ⟨s,fv,sv,ov,kv,e,hs⟩:=zt9 hf
 refine ⟨s,fv,sv,ov,kv,?_,hs⟩
 obtain ⟨l⟩:=l
 have:l = _:=e
 rw [this]
theorem zsc (h:DataW.trod enc Tryz.prog w base spare held fuel 57 cs = some x):∃ (d:De) (fv:Value),cs = deL d fv ∧ DeW w d fv:=by
 obtain ⟨xs,n,hn,hx,hl,hxl,hf⟩:=DataW.trod_struct Tryz.underlying57 h
 have hl':cs.length = 12:=hl.trans (by kernel_rfl)
 have hxl':xs.length = 7:=hxl.trans (by kernel_rfl)
 have g0:DataW.trod enc Tryz.prog w base spare held n 3 ((cs.drop 0).take (Tryz.prog.cellsOf 3)) = xs[0]?:=hf 0 _ rfl
 have g1:DataW.trod enc Tryz.prog w base spare held n 9 ((cs.drop 1).take (Tryz.prog.cellsOf 9)) = xs[1]?:=hf 1 _ rfl
 have g2:DataW.trod enc Tryz.prog w base spare held n 9 ((cs.drop 2).take (Tryz.prog.cellsOf 9)) = xs[2]?:=hf 2 _ rfl
 have g3:DataW.trod enc Tryz.prog w base spare held n 3 ((cs.drop 3).take (Tryz.prog.cellsOf 3)) = xs[3]?:=hf 3 _ rfl
 have g4:DataW.trod enc Tryz.prog w base spare held n 22 ((cs.drop 4).take (Tryz.prog.cellsOf 22)) = xs[4]?:=hf 4 _ rfl
 have g5:DataW.trod enc Tryz.prog w base spare held n 22 ((cs.drop 5).take (Tryz.prog.cellsOf 22)) = xs[5]?:=hf 5 _ rfl
 have g6:DataW.trod enc Tryz.prog w base spare held n 25 ((cs.drop 6).take (Tryz.prog.cellsOf 25)) = xs[6]?:=hf 6 _ rfl
 rw [show Tryz.prog.cellsOf 3 = 1 by kernel_rfl,List.getElem?_eq_getElem (by omega)] at g0 g3
 rw [show Tryz.prog.cellsOf 9 = 1 by kernel_rfl,List.getElem?_eq_getElem (by omega)] at g1 g2
 rw [show Tryz.prog.cellsOf 22 = 1 by kernel_rfl,List.getElem?_eq_getElem (by omega)] at g4 g5
 rw [show Tryz.prog.cellsOf 25 = 6 by kernel_rfl,List.getElem?_eq_getElem (by omega)] at g6
 match cs,hl' with
 | [c0,c1,c2,c3,c4,c5,c6,c7,c8,c9,c10,c11],_ =>
   obtain ⟨z0,k0,_,w0⟩:=DataW.trod_int Tryz.underlying3 g0
   obtain ⟨z1,k1,_,w1⟩:=DataW.trod_string Tryz.underlying9 g1
   obtain ⟨z2,k2,_,w2⟩:=DataW.trod_string Tryz.underlying9 g2
   obtain ⟨z3,k3,_⟩:=DataW.trod_int Tryz.underlying3 g3
   obtain ⟨z4,k4⟩:=zct Tryz.underlying22 g4
   obtain ⟨z5,k5⟩:=zct Tryz.underlying22 g5
   obtain ⟨q,kq,k6,hq⟩:=zkz n _ _ g6
   simp [tc] at k0 k1 k2 k3 k4 k5 k6
   obtain ⟨a1,a2,a3,a4,a5,a6⟩:=k6
   subst k0 k1 k2 k3 k4 k5 a1 a2 a3 a4 a5 a6
   refine ⟨⟨z0,z1,z2,z3,z4,z5,q⟩,_,rfl,hq,w1,w2,?_⟩
   simp [Lit.wf,IntKind.min,IntKind.max,IntKind.signed,IntKind.bits] at w0
   omega
theorem zrq {r:Reach} {b0:Nat} {v:Value} {d:DataW H} {p:List MemPlace} (hv:Value.okWide Tryz.prog w r b0 57 v) (h:DataW.Trod enc Tryz.prog w base spare held 57 v d p) :
   ∃ (q:De) (fv:Value),v = deV q fv ∧ DeW w q fv:=by
 obtain ⟨l,rfl,hsz⟩:=okWide_struct Tryz.underlying57 hv
 obtain ⟨f,hf⟩:=h
 obtain ⟨q,fv,e,hs⟩:=zsc hf
 refine ⟨q,fv,?_,hs⟩
 obtain ⟨l⟩:=l
 have:l = _:=e
 rw [this]
end
end Go.Proofs.YthnllikalobmeaaGreat
