/- Joined: LConc, LPut, Stock, LocA. -/
import Derived.Test.YthnllikalobmeaaGreatJ23
import Derived.Shelf.Spec.SlicesGrow
import Derived.Lib.AppendZeros
import Derived.Test.YthnllikalobmeaaGreatJ32
import Derived.Test.YthnllikalobmeaaGreatJ08
import Derived.Deep.RegionLaw
import Derived.Deep.RegionHeld3
import Derived.Test.YthnllikalobmeaaGreatJ14
import Derived.Test.YthnllikalobmeaaGreatJ01
import Derived.Test.YthnllikalobmeaaGreatJ35
import Derived.Lib.SliceRun
namespace Go.Proofs.YthnllikalobmeaaGreat
set_option linter.unusedVariables false
set_option linter.unusedSimpArgs false
set_option maxRecDepth 100000
set_option maxHeartbeats 8000000
open Go.RowKit
theorem y37h {p:Prop} (h:p):Hid p:=Lib.hid h
def growI_ren:Go.Shelf.Ren:=⟨fun | 4=>173 | n=>n,
 fun | 22=>41 | 25=>69 | 3=>3 | 4=>4 | 9=>9 | 20=>20 | 0=>0 | n=>n,
 fun | n=>n⟩
theorem zye:Go.Proofs.Lays8.n4 Tryz.prog growI_ren:={
 mixed:=by kernel_rfl,
 f4:=⟨Tryz.f173.name,by decide,Tryz.func173.trans (congrArg some (by kernel_rfl))⟩,
 t0:=Tryz.underlying0,
 a0:=Tryz.isAgg0,
 z0:=Tryz.sizeOf0,
 v0:=Tryz.zeroValue0,
 t3:=Tryz.underlying3,
 a3:=Tryz.isAgg3,
 z3:=Tryz.sizeOf3,
 v3:=Tryz.zeroValue3,
 t4:=Tryz.underlying4,
 a4:=Tryz.isAgg4,
 z4:=Tryz.sizeOf4,
 v4:=Tryz.zeroValue4,
 t9:=Tryz.underlying9,
 a9:=Tryz.isAgg9,
 z9:=Tryz.sizeOf9,
 v9:=Tryz.zeroValue9,
 t20:=Tryz.underlying20,
 a20:=Tryz.isAgg20,
 z20:=Tryz.sizeOf20,
 v20:=Tryz.zeroValue20,
 t22:=Tryz.underlying41,
 a22:=Tryz.isAgg41,
 z22:=Tryz.sizeOf41,
 v22:=Tryz.zeroValue41 }
theorem zqi (n:Nat) (hn:n ≤ 20000) (w:World) :
   Calls Tryz.prog 173 #[.slice none 0 0,.int .i64 n] w fun e w'=>∃ v,e = .returned v ∧ OwnI w' w.heap.size [] v ∧ Below w.heap.size w w':=by
 obtain ⟨j0,hj,hy0,hy1,hy2⟩:=info_parts zca
 by_cases h0:n = 0
 · subst h0
   refine (Any8.slices_Grow_room zye none 0 0 0 w (by omega) (by omega) (by omega) (by omega)).mono ?_
   rintro e w' ⟨rfl,rfl⟩
   exact ⟨_,rfl,OwnI.nil _ _,Below.refl _ _⟩
 · refine (Any8.slices_Grow_grow zye j0 _ hj hy0 (by rw [hy1];omega) none 0 0 n [] w (by omega) (by omega) (by rw [hy2];omega) (by omega) (by simp) (fun _=>rfl) (fun a h=>by cases h)).mono ?_
   rintro e w' ⟨rfl,rfl⟩
   have hge:=grownCap_ge w (0 + n) 0 (growI_ren.t 25)
   have hle:=grownCap_le_maxLen w (0 + n) 0 (growI_ren.t 25) (by unfold maxLen;omega)
   refine ⟨_,rfl,⟨by simp [zas],.inr ⟨w.heap.size,_,_,rfl,Nat.le_refl _,heap_alloc_new w.drew _,by simp,hle,?_,by simp [zas]⟩⟩,(Below.refl _ _).drew.alloc (Nat.le_refl _) _⟩
   simp only [Array.size_append,List.size_toArray,size_zeroCells,List.length_nil,Nat.zero_add,Nat.sub_zero]
   rw [← Nat.add_mul]
   rw [show (Value.cells (.agg #[.string ⟨#[]⟩,.int .i64 0,.int .i64 0,.int .i64 0,.string ⟨#[]⟩,.int .i64 0,.complex .f64 0 0,.bool false])).size = 8 from rfl]
   congr 1
   simp only [Nat.zero_add] at hge
   omega
theorem ztd (a:Addr) (w:World):(storeCells a []).run Tryz.prog w = .ok () w:=by simp [storeCells]
theorem zj1 (ty:TypeId) (base oa:Option Addr) (n cap c:Nat) (hn:n ≤ cap) (w:World) :
   (Builtin.append_ #[41,41] ty #[.slice base n cap,.slice oa 0 c]).run Tryz.prog w = .ok (.slice base n cap) w:=by
 obtain ⟨j0,hj,hy0,hy1,hy2⟩:=info_parts zca
 have hf:(Builtin.firstCells j0.size 0 (.slice oa 0 c)).run Tryz.prog w = .ok #[] w:=by
   cases oa with
   | none=>exact run_firstCells_none w _ _ _ _
   | some a=>exact run_firstCells_some w j0.size 0 a 0 c [] (by simp) (fun j v h=>by simp at h)
 cases base with
 | none=>simp [Builtin.append_,run_underlying Tryz.underlying41,sizeOf,typeInfo,hj,Builtin.lenOf,hn,hf,Result.andThen]
 | some a=>simp [Builtin.append_,run_underlying Tryz.underlying41,sizeOf,typeInfo,hj,Builtin.lenOf,hn,hf,ztd,Result.andThen]
theorem zi8 (l:List Itm):∀ u ∈ zas l,u.oneCell' = true:=by
 intro u hu
 unfold zas at hu
 obtain ⟨i,_,hi⟩:=List.mem_flatMap.1 hu
 exact zcw i u hi
theorem zbi (ty:TypeId) {w:World} {base:Nat} {v sv:Value} {l m:List Itm} (hown:OwnI w base l v) (hM:Row 8 ic w m sv) (hn:l.length + m.length ≤ 30000) (hbase:base ≤ w.heap.size) :
   ∃ v' w',(Builtin.append_ #[41,41] ty #[v,sv]).run Tryz.prog w = .ok v' w' ∧ OwnI w' base (l ++ m) v' ∧ w.grownBy w' v.ownBlock:=by
 obtain ⟨oa,cap,b,o,rfl,h⟩:=hM
 obtain ⟨j0,hj,hy0,hy1,hy2⟩:=info_parts zca
 by_cases h0:m.length = 0
 · have e:m = []:=List.length_eq_zero_iff.1 h0
   subst e
   obtain ⟨ov,cv,gv,e,h1,_⟩:=zan hown
   subst e
   refine ⟨_,w,zj1 ty ov oa l.length cv cap h1 w,?_,⟨rfl,rfl,rfl,Nat.le_refl _,fun _ _ _=>rfl⟩⟩
   rw [List.append_nil];exact hown
 · obtain ⟨rfl,hb⟩:=h.at0 (by omega)
   obtain ⟨v',w',r1,r2,r3,_⟩:=run_append_own w base 41 ty 69 j0 _ 8 88 Tryz.underlying41 hj hy0 hy1 hy2 rfl (by omega) v l.length (zas l) hown ⟨b,o,none⟩ m.length cap (zas m) (zc5 m) (zie h rfl) (zi8 m) (by unfold maxLen;omega) (by omega) hbase
   refine ⟨v',w',r1,?_,r3⟩
   unfold OwnI
   rw [zhf,List.length_append]
   exact r2
structure SrcI (N:Nat) (w:World) (L:Nat → List Itm) (V:Nat → Value) (bs:Nat):Prop where
 lt:bs < w.heap.size
 cell:∀ k,k < N → w.cell? ⟨bs,k,none⟩ = some (V k)
 lies:∀ k,k < N → Row 8 ic w (L k) (V k)
 len:∀ k,k < N → (L k).length ≤ 2000
def catI (L:Nat → List Itm):Nat → List Itm
 | 0=>[]
 | k + 1=>catI L k ++ L k
theorem SrcI.tot {N:Nat} {w:World} {L:Nat → List Itm} {V:Nat → Value} {bs:Nat} (h:SrcI N w L V bs):∀ k,k ≤ N → (catI L k).length ≤ 2000 * k:=by
 intro k
 induction k with
 | zero=>intro _;simp [catI]
 | succ k ih =>
   intro hk
   have h1:=ih (by omega)
   have h2:=h.len k (by omega)
   simp only [catI,List.length_append];omega
def SumI (N:Nat) (L:Nat → List Itm) (w0:World) (s i:Value) (wr:World):Prop:=∃ k:Nat,k ≤ N ∧ i = .int .i64 k ∧ s = .int .i64 (catI L k).length ∧ Hid (w0 = wr)
def CatR (N:Nat) (L:Nat → List Itm) (w0:World) (v i:Value) (wr:World):Prop :=
 ∃ k:Nat,k ≤ N ∧ i = .int .i64 k ∧ Hid (OwnI wr w0.heap.size (catI L k) v) ∧ Hid (Below w0.heap.size w0 wr)
theorem zhz (N:Nat) (hN:N ≤ 5) (L:Nat → List Itm) (V:Nat → Value) (bs:Nat) (w:World) (hS:SrcI N w L V bs) :
   Calls Tryz.prog 154 #[.slice (some ⟨bs,0,none⟩) N N] w fun e w'=>∃ v,e = .returned v ∧ OwnI w' w.heap.size (catI L N) v ∧ Below w.heap.size w w':=by
 have HS:=y37h hS
 have G:=fun w'=>y37h (zqi (catI L N).length (by have:=HS.out.tot N (Nat.le_refl _);omega) w')
 clear hS
 go_enter Tryz.func154,Tryz.ntmps154
 go_wp2_with fail
 go_loopw [3,11] (fun s i wr=>SumI N L w s i wr) (fun _ i _=>N - (intOf i).toNat)
 case atStart=>exact ⟨0,by omega,rfl,rfl,rfl⟩
 case round =>
   obtain ⟨k,hk,rfl,rfl,hw⟩:=hrel
   have ew:=hw.out
   subst ew
   clear hw
   by_cases hlt:k < N
   · obtain ⟨oa,cap,hV⟩:=(HS.out.lies k hlt).val
     have cv:=HS.out.cell k hlt
     rw [hV] at cv
     have zb:=HS.out.lt
     have t1:=HS.out.tot k hk
     have t2:=HS.out.len k hlt
     have t3:(catI L (k + 1)).length = (catI L k).length + (L k).length:=by simp [catI]
     have k0:(0:Int) ≤ (k:Int):=by omega
     have k1:(k:Int) < (N:Int):=by omega
     have HT:=y37h t3
     clear t3 hV
     generalize (L k).length = m at *
     generalize ht:(catI L k).length = t at *
     have hneg:decide (((t:Int) + (m:Int)) < 0) = false:=decide_eq_false (by omega)
     go_wp2_with fail
     go_roundw
     case rel=>exact ⟨k + 1,by omega,by go_num,by rw [HT.out];go_num,rfl⟩
     case measure=>simp [intOf];omega
   · have e:k = N:=by omega
     subst e
     go_wp2_with (go_at_call 173;refine (G _).out.mono ?_;rintro e w1 ⟨v0,rfl,hr0,hb0⟩)
     have C0:CatR k L w v0 (.int .i64 0) w1:=⟨0,by omega,rfl,hr0,hb0⟩
     clear hr0 hb0
     go_loopw [6,27] (fun v i wr=>CatR k L w v i wr) (fun _ i _=>k - (intOf i).toNat)
     case atStart=>exact C0
     case round =>
       clear C0
       obtain ⟨q,hq,rfl,HR,HB⟩:=hrel
       by_cases hlt:q < k
       · have LR:=(HS.out.lies q hlt).later HB.out
         obtain ⟨oa,cap,hV⟩:=LR.val
         have cv:=(HB.out.cell (p:=⟨bs,q,none⟩) HS.out.lt).trans (HS.out.cell q hlt)
         rw [hV] at cv LR
         have zb:bs < wr.heap.size:=Nat.lt_of_lt_of_le HS.out.lt HB.out.size
         have t1:=HS.out.tot q hq
         have t2:=HS.out.len q hlt
         have k0:(0:Int) ≤ (q:Int):=by omega
         have k1:(q:Int) < (k:Int):=by omega
         have HA:=y37h (fun ty=>zbi ty HR.out LR (by omega) HB.out.size)
         obtain ⟨ov,cvv,hrv⟩:=HR.out.len
         subst hrv
         clear LR hV
         go_wp2_with (at_builtin;obtain ⟨v',w',hrun,hown,hgr⟩:=HA.out _;refine Lib.wpList_append_run _ rfl _ _ _ _ rfl _ _ rfl rfl _ _ hrun ?_)
         have HB2:=y37h (zbb HR.out HB.out (Nat.le_refl _) hgr HB.out.size)
         go_roundw
         case rel=>exact ⟨q + 1,by omega,by go_num,hown,HB2⟩
         case measure=>simp [intOf];omega
       · have e:q = k:=by omega
         subst e
         go_wp2_with fail
         go_ret
         exact ⟨_,rfl,HR.out,HB.out⟩
theorem zyj (l:List Itm) (id:ByteArray):toI l id ≤ l.length:=by
 have hk:=zgj l id
 unfold toI
 cases hh:hitI l id with
 | false=>simpa using hk
 | true =>
   unfold hitI at hh
   cases e:l[posI l id]? with
   | none=>rw [e] at hh;cases hh
   | some i=>have:=zbs e;simp only [if_true];omega
theorem zfd (b o n:Nat):(⟨b,o,none⟩:Addr).add n = ⟨b,o + n,none⟩:=by
 unfold Addr.add;split <;> simp_all
theorem Row.slice {w:World} {l:List Itm} {oa:Option Addr} {n cap:Nat} (h:Row 8 ic w l (.slice oa n cap)) (t:Nat) (ht:t ≤ l.length):Row 8 ic w (l.drop t) (.slice (Option.map (fun x=>x.add (t * 8)) oa) (n - t) (cap - t)):=by
 obtain ⟨oa',cap',b,o,e,h⟩:=h
 cases e
 have hc:=h.len
 have hm:=h.max
 refine ⟨_,cap - t,b,o + t * 8,by rw [List.length_drop],by rw [List.length_drop];omega,by omega,fun h0=>?_,fun k i hk j u hu=>?_,fun i hi=>h.ok i (List.mem_of_mem_drop hi)⟩
 · rw [List.length_drop] at h0
   obtain ⟨rfl,hb⟩:=h.at0 (by omega)
   exact ⟨by simp only [Option.map_some,zfd],hb⟩
 · rw [List.getElem?_drop] at hk
   have:=h.cell (t + k) i hk j u hu
   rw [show o + t * 8 + k * 8 + j = o + (t + k) * 8 + j by omega]
   exact this
theorem Row.none {w:World} {l:List Itm} {oa:Option Addr} {n cap:Nat} (h:Row 8 ic w l (.slice oa n cap)):Row 8 ic w (l.drop cap) (.slice oa 0 0):=by
 obtain ⟨oa',cap',b,o,e,h⟩:=h
 cases e
 have hc:=h.len
 have e:l.drop cap = []:=List.drop_eq_nil_of_le hc
 rw [e]
 exact ⟨_,0,b,o,rfl,Nat.le_refl _,by decide,fun h0=>by simp at h0,fun k i hk=>by simp at hk,fun i hi=>by simp at hi⟩
theorem Row.upto {w:World} {l:List Itm} {oa:Option Addr} {n cap:Nat} (h:Row 8 ic w l (.slice oa n cap)) (k:Nat) (hk:k ≤ l.length):Row 8 ic w (l.take k) (.slice oa k cap):=by
 have e:=h.take k
 rw [List.length_take,show min k l.length = k by omega] at e
 exact e
theorem zm4 (a b:List Itm) (va vb:Value) (bs:Nat) (w:World) (hlt:bs < w.heap.size) (c0:w.cell? ⟨bs,0,none⟩ = some va) (c1:w.cell? ⟨bs,1,none⟩ = some vb) (ha:Row 8 ic w a va) (hb:Row 8 ic w b vb) (la:a.length ≤ 2000) (lb:b.length ≤ 2000) :
   Calls Tryz.prog 154 #[.slice (some ⟨bs,0,none⟩) 2 2] w fun e w'=>∃ v,e = .returned v ∧ OwnI w' w.heap.size (a ++ b) v ∧ Below w.heap.size w w':=by
 have h:=zhz 2 (by omega) (fun k=>if k = 0 then a else b) (fun k=>if k = 0 then va else vb) bs w ⟨hlt,fun k hk=>?_,fun k hk=>?_,fun k hk=>?_⟩
 · simpa [catI] using h
 · obtain rfl | rfl:k = 0 ∨ k = 1:=by omega
   · simpa using c0
   · simpa using c1
 · obtain rfl | rfl:k = 0 ∨ k = 1:=by omega
   · simpa using ha
   · simpa using hb
 · obtain rfl | rfl:k = 0 ∨ k = 1:=by omega
   · simpa using la
   · simpa using lb
theorem zm5 (a b c:List Itm) (va vb vc:Value) (bs:Nat) (w:World) (hlt:bs < w.heap.size) (c0:w.cell? ⟨bs,0,none⟩ = some va) (c1:w.cell? ⟨bs,1,none⟩ = some vb) (c2:w.cell? ⟨bs,2,none⟩ = some vc) (ha:Row 8 ic w a va) (hb:Row 8 ic w b vb) (hc:Row 8 ic w c vc) (la:a.length ≤ 2000) (lb:b.length ≤ 2000) (lc:c.length ≤ 2000) :
   Calls Tryz.prog 154 #[.slice (some ⟨bs,0,none⟩) 3 3] w fun e w'=>∃ v,e = .returned v ∧ OwnI w' w.heap.size (a ++ (b ++ c)) v ∧ Below w.heap.size w w':=by
 have h:=zhz 3 (by omega) (fun k=>if k = 0 then a else if k = 1 then b else c) (fun k=>if k = 0 then va else if k = 1 then vb else vc) bs w ⟨hlt,fun k hk=>?_,fun k hk=>?_,fun k hk=>?_⟩
 · simpa [catI] using h
 · obtain rfl | rfl | rfl:k = 0 ∨ k = 1 ∨ k = 2:=by omega
   · simpa using c0
   · simpa using c1
   · simpa using c2
 · obtain rfl | rfl | rfl:k = 0 ∨ k = 1 ∨ k = 2:=by omega
   · simpa using ha
   · simpa using hb
   · simpa using hc
 · obtain rfl | rfl | rfl:k = 0 ∨ k = 1 ∨ k = 2:=by omega
   · simpa using la
   · simpa using lb
   · simpa using lc
theorem zlt {l m:List Itm} (h:∀ i ∈ l,i.id.size ≤ maxLen ∧ i.kd.size ≤ maxLen) (hs:∀ i ∈ m,i ∈ l):∀ i ∈ m,i.id.size ≤ maxLen ∧ i.kd.size ≤ maxLen:=fun i hi=>h i (hs i hi)
theorem zfw (l:List Itm) (id:ByteArray) (v:Value) (w:World) (hR:Row 8 ic w l v) (hr:zao l) (hl:l.length ≤ 1000) (hid:id.size ≤ maxLen) :
   Calls Tryz.prog 118 #[v,.string id] w fun e w'=>∃ v',e = .returned v' ∧ OwnI w' w.heap.size (l.filter (neB id)) v' ∧ Below w.heap.size w w':=by
 have S:=y37h (zhc l id v w hR hr (by omega))
 have HO:=y37h (zlt (m:=l.filter (neB id)) hR.oks fun i hi=>(List.mem_filter.1 hi).1)
 have E:=y37h (zsa (id:=id) hr)
 have LR:=y37h hR
 obtain ⟨oa,cap,rfl⟩:=hR.val
 have kx:=hR.cap
 have hk:=zgj l id
 have ht:=zyj l id
 clear hR hr
 generalize toI l id = t at *
 generalize posI l id = k at *
 have q1:(0:Int) ≤ (k:Int):=by omega
 have q2:(k:Int) ≤ (cap:Int):=by omega
 have q3:(0:Int) ≤ (t:Int):=by omega
 have q4:(t:Int) ≤ (l.length:Int):=by omega
 go_enter Tryz.func118,Tryz.ntmps118
 go_upto_region 2 with (go_at_call 121;refine S.out.mono ?_;rintro e w1 ⟨rfl,hb⟩;replace LR:=y37h (LR.out.later hb))
 have W2:∀ x y:Value,Hid (Row 8 ic w1 (l.take k) x → Row 8 ic w1 (l.drop t) y → Calls Tryz.prog 154 #[.slice (some ⟨w1.heap.size,0,none⟩) 2 2] (w1.alloc (.cells #[x,y] 41)).drew fun e w'=>∃ v,e = .returned v ∧ OwnI w' (w1.heap.size + 1) (l.filter (neB id)) v ∧ Below w1.heap.size w1 w'):=fun x y=>y37h (fun hx hy=>by
   have h:=zm4 (l.take k) (l.drop t) x y w1.heap.size (w1.alloc (.cells #[x,y] 41)).drew (by simp) ((Has.new w1 #[x,y] 41).cell 0) ((Has.new w1 #[x,y] 41).cell 1) (hx.alloc _).drew (hy.alloc _).drew (by rw [List.length_take];omega) (by rw [List.length_drop];omega)
   rw [E.out] at h
   refine h.mono ?_
   rintro e w' ⟨v,he,ho,hb⟩
   exact ⟨v,he,by simpa using ho,(((Below.refl _ _).alloc (Nat.le_refl _) _).drew).trans (hb.mono (by simp))⟩)
 refine za1 6 (by kernel_rfl) (by kernel_rfl) ?_
 simp only [List.take_succ_cons,List.take_zero,List.drop_succ_cons,List.drop_zero]
 by_cases hq:cap = t
 · subst hq
   repeat (first | still_step)
   refine wpStill_nil ?_
   go_wp2_with fail
   refine ((W2 _ _).out (LR.out.upto k hk) (LR.out.none)).mono ?_
   rintro e w2 ⟨v,rfl,ho,hb2⟩
   go_wp2_with fail
   go_ret
   exact ⟨_,rfl,ho.mono (by have:=hb.size;omega),hb.trans (hb2.mono hb.size)⟩
 · repeat (first | still_step)
   refine wpStill_nil ?_
   go_wp2_with fail
   refine ((W2 _ _).out (LR.out.upto k hk) (LR.out.slice t ht)).mono ?_
   rintro e w2 ⟨v,rfl,ho,hb2⟩
   go_wp2_with fail
   go_ret
   exact ⟨_,rfl,ho.mono (by have:=hb.size;omega),hb.trans (hb2.mono hb.size)⟩
theorem zgg (l:List Itm) (x:Itm) (v:Value) (w:World) (hR:Row 8 ic w l v) (hr:zao l) (hl:l.length ≤ 1000) (hx:x.id.size ≤ maxLen ∧ x.kd.size ≤ maxLen) :
   Calls Tryz.prog 119 #[v,iV x] w fun e w'=>∃ v',e = .returned v' ∧ OwnI w' w.heap.size (putI l x) v' ∧ Below w.heap.size w w':=by
 have LR:=y37h (hR.alloc (.cells (iA x) 69))
 have S:=y37h (zhc l x.id v _ LR.out hr (by omega))
 have OX:=y37h (Has.new w (iA x) 69)
 have BEL:=y37h ((Below.refl w.heap.size w).alloc (Nat.le_refl _) (.cells (iA x) 69))
 have E:=y37h (zu9 (x:=x) hr)
 have HO:=y37h (show ∀ i ∈ putI l x,i.id.size ≤ maxLen ∧ i.kd.size ≤ maxLen from fun i hi=>by
   rcases mem_put.1 hi with e | ⟨e,_⟩
   · rw [e];exact hx
   · exact hR.oks i e)
 obtain ⟨oa,cap,rfl⟩:=hR.val
 have kx:=hR.cap
 have hk:=zgj l x.id
 have ht:=zyj l x.id
 have HX:=y37h hx
 clear hR hr hx
 generalize toI l x.id = t at *
 generalize posI l x.id = k at *
 have q1:(0:Int) ≤ (k:Int):=by omega
 have q2:(k:Int) ≤ (cap:Int):=by omega
 have q3:(0:Int) ≤ (t:Int):=by omega
 have q4:(t:Int) ≤ (l.length:Int):=by omega
 go_enter Tryz.func119,Tryz.ntmps119
 have l0:=OX.out.cell
 have z0:=OX.out.lt
 go_upto_region 2 with (go_at_call 121;clear l0 z0;refine S.out.mono ?_;rintro e w1 ⟨rfl,hb⟩;replace LR:=y37h (LR.out.later hb);replace OX:=y37h (OX.out.below hb OX.out.lt);replace BEL:=y37h (BEL.out.trans (hb.mono BEL.out.size)))
 have l1:=OX.out.cell
 have z1:=OX.out.lt
 have zb:=BEL.out.size
 have W3:∀ (B:Nat) (va vc:Value),Hid (B = w1.heap.size + 1 → Row 8 ic w1 (l.take k) va → Row 8 ic w1 (l.drop t) vc → Calls Tryz.prog 154 #[.slice (some ⟨B,0,none⟩) 3 3] ((w1.alloc (.cells (iA x) 69)).alloc (.cells #[va,.slice (some ⟨w1.heap.size,0,none⟩) 1 1,vc] 41)).drew fun e w'=>∃ v,e = .returned v ∧ OwnI w' (w1.heap.size + 2) (putI l x) v ∧ Below w1.heap.size w1 w'):=fun B va vc=>y37h (fun hB ha hc=>by
   subst hB
   have o1:=(zfn w1 x 69 HX.out)
   have hs:=Has.new (w1.alloc (.cells (iA x) 69)) #[va,.slice (some ⟨w1.heap.size,0,none⟩) 1 1,vc] 41
   have h:=zm5 (l.take k) [x] (l.drop t) va (.slice (some ⟨w1.heap.size,0,none⟩) 1 1) vc (w1.alloc (.cells (iA x) 69)).heap.size ((w1.alloc (.cells (iA x) 69)).alloc (.cells #[va,.slice (some ⟨w1.heap.size,0,none⟩) 1 1,vc] 41)).drew hs.drew.lt (hs.drew.cell 0) (hs.drew.cell 1) (hs.drew.cell 2) ((ha.alloc _).alloc _).drew (o1.alloc _).drew ((hc.alloc _).alloc _).drew (by rw [List.length_take];omega) (by simp) (by rw [List.length_drop];omega)
   rw [E.out,show (w1.alloc (.cells (iA x) 69)).heap.size = w1.heap.size + 1 by simp] at h
   refine h.mono ?_
   rintro e w' ⟨v,he,ho,hb⟩
   exact ⟨v,he,by simpa using ho,((((Below.refl _ _).alloc (Nat.le_refl _) _).alloc (by simp) _).drew).trans (hb.mono (by simp;omega))⟩)
 by_cases hq:cap = t
 · subst hq
   go_region_held3 (fun w'=>∀ o,w'.cell? ⟨w.heap.size,o,none⟩ = (iA x)[o]?) (first | with_reducible exact OX2.out.cell | with_reducible exact OX.out.cell | with_reducible exact OX.out.drew.cell | with_reducible exact ((OX.out.alloc _).drew).cell | with_reducible exact ((OX.out.alloc _).drew.alloc _).cell | with_reducible exact (((OX.out.alloc _).alloc _).drew).cell) (first
     | (go_simp;go_at_call 154;with_reducible refine ((W3 _ _ _).out rfl (LR.out.upto k hk) LR.out.none).mono ?_;rintro e w2 ⟨v,rfl,ho,hb2⟩;have OX2:=y37h (OX.out.below hb2 OX.out.lt))
     | fail)
   go_wp2_with fail
   go_ret
   exact ⟨_,rfl,ho.mono (by have:=BEL.out.size;omega),BEL.out.trans (hb2.mono BEL.out.size)⟩
 · go_region_held3 (fun w'=>∀ o,w'.cell? ⟨w.heap.size,o,none⟩ = (iA x)[o]?) (first | with_reducible exact OX2.out.cell | with_reducible exact OX.out.cell | with_reducible exact OX.out.drew.cell | with_reducible exact ((OX.out.alloc _).drew).cell | with_reducible exact ((OX.out.alloc _).drew.alloc _).cell | with_reducible exact (((OX.out.alloc _).alloc _).drew).cell) (first
     | (go_simp;go_at_call 154;with_reducible refine ((W3 _ _ _).out rfl (LR.out.upto k hk) (LR.out.slice t ht)).mono ?_;rintro e w2 ⟨v,rfl,ho,hb2⟩;have OX2:=y37h (OX.out.below hb2 OX.out.lt))
     | fail)
   go_wp2_with fail
   go_ret
   exact ⟨_,rfl,ho.mono (by have:=BEL.out.size;omega),BEL.out.trans (hb2.mono BEL.out.size)⟩
def zaz (V:Nat → Value):Nat → List Pr → List Value
 | _,[]=>[]
 | s,p :: l=>pc p (V s) ++ zaz V (s + 1) l
theorem zib (p:Pr) (v:Value):(pc p v).length = 5:=rfl
theorem zpg (V:Nat → Value) (s:Nat) (l:List Pr):(zaz V s l).length = l.length * 5:=by
 induction l generalizing s with
 | nil=>rfl
 | cons p l ih=>simp only [zaz,List.length_append,ih,zib,List.length_cons];omega
theorem zfi (V:Nat → Value) (s:Nat) (l:List Pr) (i:Nat) (p:Pr) (hp:l[i]? = some p) (j:Nat) (hj:j < 5):(zaz V s l)[i * 5 + j]? = (pc p (V (s + i)))[j]?:=by
 induction l generalizing s i with
 | nil=>simp at hp
 | cons q l ih =>
   cases i with
   | zero =>
     simp at hp;subst hp
     simp only [zaz,Nat.zero_mul,Nat.zero_add,Nat.add_zero]
     rw [List.getElem?_append_left (by rw [zib];exact hj)]
   | succ i =>
     simp at hp
     simp only [zaz]
     rw [List.getElem?_append_right (by rw [zib];omega),zib,show (i + 1) * 5 + j - 5 = i * 5 + j by omega,ih (s + 1) i hp,show s + 1 + i = s + (i + 1) by omega]
theorem zw6 {V:Nat → Value} {s:Nat} {l:List Pr} (h:∀ i p,l[i]? = some p → (V (s + i)).oneCell' = true):∀ u ∈ zaz V s l,u.oneCell' = true:=by
 induction l generalizing s with
 | nil=>simp [zaz]
 | cons p l ih =>
   intro u hu
   simp only [zaz,List.mem_append] at hu
   rcases hu with hu | hu
   · exact zu6 (h 0 p rfl) u hu
   · exact ih (s:=s + 1) (fun i q hq=>by have:=h (i + 1) q (by simpa using hq);rwa [show s + 1 + i = s + (i + 1) by omega]) u hu
theorem zg9 {V W:Nat → Value} {s s':Nat} {l:List Pr} (h:∀ i,i < l.length → V (s + i) = W (s' + i)):zaz V s l = zaz W s' l:=by
 induction l generalizing s s' with
 | nil=>rfl
 | cons p l ih =>
   simp only [zaz]
   rw [show V s = W s' from h 0 (by simp),ih (fun i hi=>by have:=h (i + 1) (by simp;omega);rwa [show s + (i + 1) = s + 1 + i by omega,show s' + (i + 1) = s' + 1 + i by omega] at this)]
theorem zw3 (V:Nat → Value) (s:Nat) (l m:List Pr):zaz V s (l ++ m) = zaz V s l ++ zaz V (s + l.length) m:=by
 induction l generalizing s with
 | nil=>simp [zaz]
 | cons p l ih=>simp only [List.cons_append,zaz,ih,List.append_assoc,List.length_cons];rw [show s + 1 + l.length = s + (l.length + 1) by omega]
def ze0 (n:Nat) (V W:Nat → Value):Nat → Value:=fun i=>if i < n then V i else W (i - n)
theorem zuz (V W:Nat → Value) (l m:List Pr):zaz V 0 l ++ zaz W 0 m = zaz (ze0 l.length V W) 0 (l ++ m):=by
 rw [zw3]
 congr 1
 · exact zg9 fun i hi=>by simp [ze0,hi]
 · refine zg9 fun i hi=>?_
   simp only [ze0,Nat.zero_add]
   rw [if_neg (by omega),show l.length + i - l.length = i by omega]
def PRow (w:World) (base:Nat) (S:Nat → Prop) (l:List Pr) (v:Value) (V:Nat → Value):Prop :=
 w.ownsRow base 40 5 v l.length (zaz V 0 l) ∧ ∀ i p,l[i]? = some p → Lies 5 pc S w p (V i)
structure Rw where
 l:List Pr
 v:Value
 V:Nat → Value
def Rw.nil:Rw:=⟨[],.slice .none 0 0,fun _=>.nilFunc⟩
def Sof (w:World) (base:Nat) (R:Nat → Rw) (b:Nat):Prop:=base ≤ b ∧ b < w.heap.size ∧ ∀ i,some b ≠ (R i).v.ownBlock
structure Stock (w:World) (base:Nat) (R:Nat → Rw):Prop where
 row:∀ i,PRow w base (Sof w base R) (R i).l (R i).v (R i).V
 apart:∀ i j,i ≠ j → (R i).v.ownBlock = none ∨ (R i).v.ownBlock ≠ (R j).v.ownBlock
theorem Stock.kept {w w':World} {base:Nat} {R:Nat → Rw} (h:Stock w base R) (hb:∀ b,base ≤ b → b < w.heap.size → w'.heap[b]? = w.heap[b]?) (hs:w.heap.size ≤ w'.heap.size):Stock w' base R:=by
 refine ⟨fun i=>⟨?_,fun j p hp=>?_⟩,h.apart⟩
 · obtain ⟨h1,h2⟩:=(h.row i).1
   refine ⟨h1,?_⟩
   rcases h2 with h2 | ⟨g,cap,cur,hv,hg,hh,r⟩
   · exact .inl h2
   · have hlt:=((h.row i).1.lt g (by rw [hv];rfl)).2
     exact .inr ⟨g,cap,cur,hv,hg,by rw [hb g hg hlt];exact hh,r⟩
 · exact ((h.row i).2 j p hp).mono (fun b o hS=>World.cell?_of_block (hb b hS.1 hS.2.1)) fun b hS=>⟨hS.1,Nat.lt_of_lt_of_le hS.2.1 hs,hS.2.2⟩
theorem Stock.later {w w':World} {base:Nat} {R:Nat → Rw} (h:Stock w base R) (hb:Below w.heap.size w w'):Stock w' base R:=h.kept (fun b _ hl=>hb.block b hl) hb.size
theorem Stock.alloc {w:World} {base:Nat} {R:Nat → Rw} (h:Stock w base R) (o:Obj):Stock (w.alloc o) base R:=h.later ((Below.refl _ _).alloc (Nat.le_refl _) _)
theorem Stock.drew {w:World} {base:Nat} {R:Nat → Rw} (h:Stock w base R):Stock w.drew base R:=h.later (Below.refl _ _).drew
theorem Stock.setLow {w:World} {base:Nat} {R:Nat → Rw} (h:Stock w base R) (p:Addr) (v:Value) (hp:p.block < base):Stock (w.setCell p v) base R :=
 h.kept (fun b hb _=>Below.heap_setCell _ _ _ _ (by omega)) (by simp [World.setCell])
def upd (R:Nat → Rw) (i:Nat) (r:Rw):Nat → Rw:=fun j=>if j = i then r else R j
theorem zhe (R:Nat → Rw) (i:Nat) (r:Rw):upd R i r i = r:=by simp [upd]
theorem zgp (R:Nat → Rw) {i j:Nat} (r:Rw) (h:j ≠ i):upd R i r j = R j:=by simp [upd,h]
theorem Stock.push {w w':World} {base:Nat} {R:Nat → Rw} (h:Stock w base R) (i:Nat) (m:List Pr) (W:Nat → Value) (hm:∀ j p,m[j]? = some p → Lies 5 pc (Sof w base R) w p (W j)) {g cap n:Nat} (hn:n = (R i).l.length + m.length)
   (hown:w'.ownsRow base 40 5 (.slice (some ⟨g,0,none⟩) n cap) n (zaz (R i).V 0 (R i).l ++ zaz W 0 m)) (hgrow:w.grownBy w' (R i).v.ownBlock) (hat:(R i).v.ownBlock = some g ∨ g = w.heap.size) :
   Stock w' base (upd R i ⟨(R i).l ++ m,.slice (some ⟨g,0,none⟩) n cap,ze0 (R i).l.length (R i).V W⟩):=by
 subst hn
 have hlt:∀ j k,(R j).v.ownBlock = some k → k < w.heap.size:=fun j k hk=>((h.row j).1.lt k hk).2
 have hne:∀ j,j ≠ i → (R j).v.ownBlock ≠ some g:=by
   intro j hj e
   rcases hat with h1 | h1
   · rcases h.apart j i hj with h2 | h2
     · rw [h2] at e;cases e
     · exact h2 (by rw [e,h1])
   · have:=hlt j g e;omega
 have hS:∀ b,Sof w base R b → Sof w' base (upd R i ⟨(R i).l ++ m,.slice (some ⟨g,0,none⟩) ((R i).l.length + m.length) cap,ze0 (R i).l.length (R i).V W⟩) b:=by
   intro b hb
   refine ⟨hb.1,Nat.lt_of_lt_of_le hb.2.1 hgrow.size,fun j=>?_⟩
   by_cases e:j = i
   · subst e
     rw [zhe]
     simp only [Value.ownBlock,ne_eq,Option.some.injEq]
     intro e
     rcases hat with h1 | h1
     · exact hb.2.2 j (by rw [h1,e])
     · have:=hb.2.1;omega
   · rw [zgp _ _ e];exact hb.2.2 j
 have hc:∀ b o,Sof w base R b → w'.cell? ⟨b,o,none⟩ = w.cell? ⟨b,o,none⟩:=fun b o hb=>hgrow.cell_far _ hb.2.1 (hb.2.2 i)
 refine ⟨fun j=>?_,fun j k hjk=>?_⟩
 · by_cases e:j = i
   · subst e
     rw [zhe]
     refine ⟨?_,fun a p hp=>?_⟩
     · simp only [List.length_append]
       rw [← zuz];exact hown
     · simp only at hp ⊢
       by_cases ha:a < (R j).l.length
       · rw [List.getElem?_append_left ha] at hp
         have:ze0 (R j).l.length (R j).V W a = (R j).V a:=by simp [ze0,ha]
         rw [this]
         exact ((h.row j).2 a p hp).mono hc hS
       · rw [List.getElem?_append_right (by omega)] at hp
         have:ze0 (R j).l.length (R j).V W a = W (a - (R j).l.length):=by simp [ze0,ha]
         rw [this]
         exact (hm _ p hp).mono hc hS
   · rw [zgp _ _ e]
     refine ⟨(h.row j).1.kept hgrow (h.apart j i e),fun a p hp=>((h.row j).2 a p hp).mono hc hS⟩
 · by_cases e:j = i
   · subst e
     rw [zhe,zgp _ _ (fun e=>hjk e.symm)]
     exact .inr fun e=>hne k (fun e=>hjk e.symm) (by rw [← e];rfl)
   · rw [zgp _ _ e]
     by_cases e':k = i
     · subst e'
       rw [zhe]
       exact .inr fun e2=>hne j e (by rw [e2];rfl)
     · rw [zgp _ _ e'];exact h.apart j k hjk
theorem Stock.slice {w:World} {base:Nat} {R:Nat → Rw} (h:Stock w base R) (i:Nat):∃ (oa:Option Addr) (cap g:Nat),(R i).v = .slice oa (R i).l.length cap ∧ (R i).l.length ≤ cap ∧ cap ≤ maxLen ∧ (0 < (R i).l.length → oa = some ⟨g,0,none⟩ ∧ base ≤ g ∧ g < w.heap.size):=zan (h.row i).1
theorem Stock.at {w:World} {base:Nat} {R:Nat → Rw} (h:Stock w base R) (i:Nat) {g n cap k:Nat} {p:Pr} (hv:(R i).v = .slice (some ⟨g,0,none⟩) n cap) (hp:(R i).l[k]? = some p) :
   (w.cell? ⟨g,k * 5,none⟩ = some (.int .i64 p.op) ∧ w.cell? ⟨g,k * 5 + 1,none⟩ = some (.string p.text) ∧ w.cell? ⟨g,k * 5 + 2,none⟩ = some (.int .i64 p.n) ∧ w.cell? ⟨g,k * 5 + 3,none⟩ = some (.complex .f64 p.x p.y) ∧ w.cell? ⟨g,k * 5 + 4,none⟩ = some ((R i).V k)) ∧
     Lies 5 pc (Sof w base R) w p ((R i).V k):=by
 have h1:=(h.row i).1
 have hn:n = (R i).l.length:=by
   obtain ⟨oa,cap',g',e,_⟩:=zan h1
   rw [hv] at e;cases e;rfl
 subst hn
 rw [hv] at h1
 have hk:=zcm hp
 have c:∀ j u,(pc p ((R i).V k))[j]? = some u → w.cell? ⟨g,k * 5 + j,none⟩ = some u:=by
   intro j u hu
   have hj:j < 5:=by have:=(List.getElem?_eq_some_iff.1 hu).1;rwa [zib] at this
   rw [h1.cellAt (k * 5 + j) (by omega),zfi _ _ _ _ _ hp _ hj,Nat.zero_add,hu]
 exact ⟨⟨c 0 _ rfl,c 1 _ rfl,c 2 _ rfl,c 3 _ rfl,c 4 _ rfl⟩,(h.row i).2 k p hp⟩
theorem Stock.lies {w:World} {base B:Nat} {R:Nat → Rw} (h:Stock w base R) (i:Nat) (hB:B ≤ base) (op:Int) (t:ByteArray) (n:Int) (x y:Nat) (ht:t.size ≤ maxLen):Lies 5 pc (fun b=>B ≤ b ∧ b < w.heap.size) w (.node op t n x y (R i).l) (R i).v:=by
 obtain ⟨oa,cap,g,e,h1,h2,hg⟩:=h.slice i
 rw [e]
 refine .mk op t n x y _ oa cap g 0 (R i).V ht h1 h2 (fun hp=>⟨(hg hp).1,by have:=(hg hp).2;omega⟩) (fun k p hp j u hu=>?_) fun k p hp=>?_
 · obtain ⟨rfl,_⟩:=hg (by have:=zcm hp;omega)
   obtain ⟨⟨a0,a1,a2,a3,a4⟩,_⟩:=h.at i e hp
   rw [Nat.zero_add]
   match j,hu with
   | 0,hu=>cases hu;exact a0
   | 1,hu=>cases hu;exact a1
   | 2,hu=>cases hu;exact a2
   | 3,hu=>cases hu;exact a3
   | 4,hu=>cases hu;exact a4
 · exact ((h.row i).2 k p hp).mono (fun _ _ _=>rfl) fun b hS=>⟨Nat.le_trans hB hS.1,hS.2.1⟩
theorem zcp (t ty e:TypeId) (i:TypeInfo) (z:Value) (size bytes:Nat) (ht:Tryz.prog.underlying t = some (.slice e)) (hi:Tryz.prog.info? e = some i) (hz:i.zero = some z)
   (hsize:i.size = size) (hby:i.bytes = bytes) (hzs:z.cells.size = size) (hsz:0 < size) {w:World} {base:Nat} {v:Value} {n:Nat} {xs:List Value} (hown:w.ownsRow base e size v n xs)
   (oa:Option Addr) (m c:Nat) (news:List Value) (hl:news.length = m * size) (hnews:0 < m → ∃ b o,oa = some ⟨b,o,none⟩ ∧ ∀ j u,news[j]? = some u → w.cell? ⟨b,o + j,none⟩ = some u) (h1:∀ u ∈ news,u.oneCell' = true)
   (h63:n + m ≤ 30000) (hb:bytes ≤ 1000) (hbase:base ≤ w.heap.size) :
   ∃ v' w',(Builtin.append_ #[t,t] ty #[v,.slice oa m c]).run Tryz.prog w = .ok v' w' ∧ w'.ownsRow base e size v' (n + m) (xs ++ news) ∧ w.grownBy w' v.ownBlock:=by
 by_cases h0:m = 0
 · subst h0
   obtain ⟨ov,cv,gv,e',h1',_⟩:=zan hown
   subst e'
   have hf:(Builtin.firstCells i.size 0 (.slice oa 0 c)).run Tryz.prog w = .ok #[] w:=by
     cases oa with
     | none=>exact run_firstCells_none w _ _ _ _
     | some a=>exact run_firstCells_some w i.size 0 a 0 c [] (by simp) (fun j v h=>by simp at h)
   have hn:news = []:=List.length_eq_zero_iff.1 (by omega)
   subst hn
   have hr:(Builtin.append_ #[t,t] ty #[.slice ov n cv,.slice oa 0 c]).run Tryz.prog w = .ok (.slice ov n cv) w:=by
     cases ov with
     | none=>simp [Builtin.append_,run_underlying ht,sizeOf,typeInfo,hi,Builtin.lenOf,h1',hf,Result.andThen]
     | some a=>simp [Builtin.append_,run_underlying ht,sizeOf,typeInfo,hi,Builtin.lenOf,h1',hf,zmx,Result.andThen]
   exact ⟨_,w,hr,by simpa using hown,⟨rfl,rfl,rfl,Nat.le_refl _,fun _ _ _=>rfl⟩⟩
 · obtain ⟨b,o,rfl,hn⟩:=hnews (by omega)
   obtain ⟨v',w',r1,r2,r3,_⟩:=run_append_own w base t ty e i z size bytes ht hi hz hsize hby hzs hsz v n xs hown ⟨b,o,none⟩ m c news hl (fun j u hu=>by rw [zfd];exact hn j u hu) h1 (by unfold maxLen;omega) (Nat.le_trans (Nat.mul_le_mul h63 hb) (by decide)) hbase
   exact ⟨v',w',r1,r2,r3⟩
theorem zf2 (w:World) (e:TypeId) (size:Nat):(w.alloc (.cells #[] e)).ownsRow w.heap.size e size (.slice (some ⟨w.heap.size,0,none⟩) 0 0) 0 [] :=
 ⟨by simp,.inr ⟨w.heap.size,0,#[],rfl,Nat.le_refl _,heap_alloc_new w _,Nat.le_refl _,Nat.zero_le _,by simp,by simp⟩⟩
theorem z03:(Tryz.prog.info? 40).map (fun i=>(i.zero,i.size,i.bytes)) = some (some (.agg #[.int .i64 0,.string ⟨#[]⟩,.int .i64 0,.complex .f64 0 0,.slice none 0 0]),5,72):=by kernel_rfl
theorem zqe (oa:Option Addr) (m c:Nat) (news:List Value) (w:World) (hl:news.length = m * 8) (hnews:0 < m → ∃ b o,oa = some ⟨b,o,none⟩ ∧ b < w.heap.size ∧ ∀ j u,news[j]? = some u → w.cell? ⟨b,o + j,none⟩ = some u) (h1:∀ u ∈ news,u.oneCell' = true) (hm:m ≤ 30000) (hc:c ≤ maxLen) :
   Calls Tryz.prog 56 #[.slice oa m c] w fun e w'=>∃ v',e = .returned v' ∧ w'.ownsRow w.heap.size 69 8 v' m news ∧ Below w.heap.size w w':=by
 obtain ⟨j0,hj,hy0,hy1,hy2⟩:=info_parts zca
 cases oa with
 | none =>
   have hm0:m = 0:=by
     rcases Nat.eq_zero_or_pos m with h | h
     · exact h
     · obtain ⟨_,_,h2,_⟩:=hnews h;cases h2
   subst hm0
   have hn:news = []:=List.length_eq_zero_iff.1 (by omega)
   subst hn
   clear hnews h1 hl
   have qT:∀ w:World,(binOp .eql 41 (.slice none 0 c) (.slice none 0 0)).run Tryz.prog w = .ok (.bool true) w:=fun w=>Lib.run_eql_slice_nil w _ _ none 0 c 0 0 Tryz.underlying41
   go_enter Tryz.func56,Tryz.ntmps56
   go_wp2_with fail
   go_ret
   exact ⟨_,rfl,World.ownsRow_nil _ _ _ _,Below.refl _ _⟩
 | some a =>
   have B0:Below w.heap.size w (w.alloc (.cells #[] 69)):=(Below.refl _ _).alloc (Nat.le_refl _) _
   have HA:=y37h (fun ty=>zcp 41 ty 69 j0 _ 8 88 Tryz.underlying41 hj hy0 hy1 hy2 rfl (by omega) (zf2 w 69 8) (some a) m c news hl (fun h=>by
     obtain ⟨b,o,e,hb,hn⟩:=hnews h
     exact ⟨b,o,e,fun j u hu=>(B0.cell (p:=⟨b,o + j,none⟩) hb).trans (hn j u hu)⟩) h1 (by omega) (by omega) B0.size)
   have HB0:=y37h B0
   clear hnews h1 hl B0 hj hy0 hy1 hy2
   have qT:∀ w:World,(binOp .eql 41 (.slice (some a) m c) (.slice none 0 0)).run Tryz.prog w = .ok (.bool false) w:=fun w=>Lib.run_eql_slice_nil w _ _ (some a) m c 0 0 Tryz.underlying41
   go_enter Tryz.func56,Tryz.ntmps56
   go_wp2_with (at_builtin;obtain ⟨v',w',hrun,hown,hgr⟩:=HA.out _;refine Lib.wpList_append_run _ rfl _ _ _ _ rfl _ _ rfl rfl _ _ hrun ?_)
   go_ret
   exact ⟨_,rfl,by simpa using hown,HB0.out.grown hgr HB0.out.size (fun k hk=>by simp [Value.ownBlock] at hk;omega)⟩
theorem zqd (oa:Option Addr) (m c:Nat) (news:List Value) (w:World) (hl:news.length = m * 9) (hnews:0 < m → ∃ b o,oa = some ⟨b,o,none⟩ ∧ b < w.heap.size ∧ ∀ j u,news[j]? = some u → w.cell? ⟨b,o + j,none⟩ = some u) (h1:∀ u ∈ news,u.oneCell' = true) (hm:m ≤ 30000) (hc:c ≤ maxLen) :
   Calls Tryz.prog 115 #[.slice oa m c] w fun e w'=>∃ v',e = .returned v' ∧ w'.ownsRow w.heap.size 105 9 v' m news ∧ Below w.heap.size w w':=by
 obtain ⟨j0,hj,hy0,hy1,hy2⟩:=info_parts zcs
 cases oa with
 | none =>
   have hm0:m = 0:=by
     rcases Nat.eq_zero_or_pos m with h | h
     · exact h
     · obtain ⟨_,_,h2,_⟩:=hnews h;cases h2
   subst hm0
   have hn:news = []:=List.length_eq_zero_iff.1 (by omega)
   subst hn
   clear hnews h1 hl
   have qT:∀ w:World,(binOp .eql 29 (.slice none 0 c) (.slice none 0 0)).run Tryz.prog w = .ok (.bool true) w:=fun w=>Lib.run_eql_slice_nil w _ _ none 0 c 0 0 Tryz.underlying29
   go_enter Tryz.func115,Tryz.ntmps115
   go_wp2_with fail
   go_ret
   exact ⟨_,rfl,World.ownsRow_nil _ _ _ _,Below.refl _ _⟩
 | some a =>
   have B0:Below w.heap.size w (w.alloc (.cells #[] 105)):=(Below.refl _ _).alloc (Nat.le_refl _) _
   have HA:=y37h (fun ty=>zcp 29 ty 105 j0 _ 9 88 Tryz.underlying29 hj hy0 hy1 hy2 rfl (by omega) (zf2 w 105 9) (some a) m c news hl (fun h=>by
     obtain ⟨b,o,e,hb,hn⟩:=hnews h
     exact ⟨b,o,e,fun j u hu=>(B0.cell (p:=⟨b,o + j,none⟩) hb).trans (hn j u hu)⟩) h1 (by omega) (by omega) B0.size)
   have HB0:=y37h B0
   clear hnews h1 hl B0 hj hy0 hy1 hy2
   have qT:∀ w:World,(binOp .eql 29 (.slice (some a) m c) (.slice none 0 0)).run Tryz.prog w = .ok (.bool false) w:=fun w=>Lib.run_eql_slice_nil w _ _ (some a) m c 0 0 Tryz.underlying29
   go_enter Tryz.func115,Tryz.ntmps115
   go_wp2_with (at_builtin;obtain ⟨v',w',hrun,hown,hgr⟩:=HA.out _;refine Lib.wpList_append_run _ rfl _ _ _ _ rfl _ _ rfl rfl _ _ hrun ?_)
   go_ret
   exact ⟨_,rfl,by simpa using hown,HB0.out.grown hgr HB0.out.size (fun k hk=>by simp [Value.ownBlock] at hk;omega)⟩
theorem zqg (oa:Option Addr) (m c:Nat) (news:List Value) (w:World) (hl:news.length = m * 1) (hnews:0 < m → ∃ b o,oa = some ⟨b,o,none⟩ ∧ b < w.heap.size ∧ ∀ j u,news[j]? = some u → w.cell? ⟨b,o + j,none⟩ = some u) (h1:∀ u ∈ news,u.oneCell' = true) (hm:m ≤ 30000) (hc:c ≤ maxLen) :
   Calls Tryz.prog 116 #[.slice oa m c] w fun e w'=>∃ v',e = .returned v' ∧ w'.ownsRow w.heap.size 9 1 v' m news ∧ Below w.heap.size w w':=by
 obtain ⟨j0,hj,hy0,hy1,hy2⟩:=info_parts zfv
 cases oa with
 | none =>
   have hm0:m = 0:=by
     rcases Nat.eq_zero_or_pos m with h | h
     · exact h
     · obtain ⟨_,_,h2,_⟩:=hnews h;cases h2
   subst hm0
   have hn:news = []:=List.length_eq_zero_iff.1 (by omega)
   subst hn
   clear hnews h1 hl
   have qT:∀ w:World,(binOp .eql 103 (.slice none 0 c) (.slice none 0 0)).run Tryz.prog w = .ok (.bool true) w:=fun w=>Lib.run_eql_slice_nil w _ _ none 0 c 0 0 Tryz.underlying103
   go_enter Tryz.func116,Tryz.ntmps116
   go_wp2_with fail
   go_ret
   exact ⟨_,rfl,World.ownsRow_nil _ _ _ _,Below.refl _ _⟩
 | some a =>
   have B0:Below w.heap.size w (w.alloc (.cells #[] 9)):=(Below.refl _ _).alloc (Nat.le_refl _) _
   have HA:=y37h (fun ty=>zcp 103 ty 9 j0 _ 1 16 Tryz.underlying103 hj hy0 hy1 hy2 rfl (by omega) (zf2 w 9 1) (some a) m c news hl (fun h=>by
     obtain ⟨b,o,e,hb,hn⟩:=hnews h
     exact ⟨b,o,e,fun j u hu=>(B0.cell (p:=⟨b,o + j,none⟩) hb).trans (hn j u hu)⟩) h1 (by omega) (by omega) B0.size)
   have HB0:=y37h B0
   clear hnews h1 hl B0 hj hy0 hy1 hy2
   have qT:∀ w:World,(binOp .eql 103 (.slice (some a) m c) (.slice none 0 0)).run Tryz.prog w = .ok (.bool false) w:=fun w=>Lib.run_eql_slice_nil w _ _ (some a) m c 0 0 Tryz.underlying103
   go_enter Tryz.func116,Tryz.ntmps116
   go_wp2_with (at_builtin;obtain ⟨v',w',hrun,hown,hgr⟩:=HA.out _;refine Lib.wpList_append_run _ rfl _ _ _ _ rfl _ _ rfl rfl _ _ hrun ?_)
   go_ret
   exact ⟨_,rfl,by simpa using hown,HB0.out.grown hgr HB0.out.size (fun k hk=>by simp [Value.ownBlock] at hk;omega)⟩
theorem zqf (oa:Option Addr) (m c:Nat) (news:List Value) (w:World) (hl:news.length = m * 5) (hnews:0 < m → ∃ b o,oa = some ⟨b,o,none⟩ ∧ b < w.heap.size ∧ ∀ j u,news[j]? = some u → w.cell? ⟨b,o + j,none⟩ = some u) (h1:∀ u ∈ news,u.oneCell' = true) (hm:m ≤ 30000) (hc:c ≤ maxLen) :
   Calls Tryz.prog 96 #[.slice oa m c] w fun e w'=>∃ v',e = .returned v' ∧ w'.ownsRow w.heap.size 40 5 v' m news ∧ Below w.heap.size w w':=by
 obtain ⟨j0,hj,hy0,hy1,hy2⟩:=info_parts z03
 cases oa with
 | none =>
   have hm0:m = 0:=by
     rcases Nat.eq_zero_or_pos m with h | h
     · exact h
     · obtain ⟨_,_,h2,_⟩:=hnews h;cases h2
   subst hm0
   have hn:news = []:=List.length_eq_zero_iff.1 (by omega)
   subst hn
   clear hnews h1 hl
   have qT:∀ w:World,(binOp .eql 38 (.slice none 0 c) (.slice none 0 0)).run Tryz.prog w = .ok (.bool true) w:=fun w=>Lib.run_eql_slice_nil w _ _ none 0 c 0 0 Tryz.underlying38
   go_enter Tryz.func96,Tryz.ntmps96
   go_wp2_with fail
   go_ret
   exact ⟨_,rfl,World.ownsRow_nil _ _ _ _,Below.refl _ _⟩
 | some a =>
   have B0:Below w.heap.size w (w.alloc (.cells #[] 40)):=(Below.refl _ _).alloc (Nat.le_refl _) _
   have HA:=y37h (fun ty=>zcp 38 ty 40 j0 _ 5 72 Tryz.underlying38 hj hy0 hy1 hy2 rfl (by omega) (zf2 w 40 5) (some a) m c news hl (fun h=>by
     obtain ⟨b,o,e,hb,hn⟩:=hnews h
     exact ⟨b,o,e,fun j u hu=>(B0.cell (p:=⟨b,o + j,none⟩) hb).trans (hn j u hu)⟩) h1 (by omega) (by omega) B0.size)
   have HB0:=y37h B0
   clear hnews h1 hl B0 hj hy0 hy1 hy2
   have qT:∀ w:World,(binOp .eql 38 (.slice (some a) m c) (.slice none 0 0)).run Tryz.prog w = .ok (.bool false) w:=fun w=>Lib.run_eql_slice_nil w _ _ (some a) m c 0 0 Tryz.underlying38
   go_enter Tryz.func96,Tryz.ntmps96
   go_wp2_with (at_builtin;obtain ⟨v',w',hrun,hown,hgr⟩:=HA.out _;refine Lib.wpList_append_run _ rfl _ _ _ _ rfl _ _ rfl rfl _ _ hrun ?_)
   go_ret
   exact ⟨_,rfl,by simpa using hown,HB0.out.grown hgr HB0.out.size (fun k hk=>by simp [Value.ownBlock] at hk;omega)⟩
theorem zfe (l:List Itm) (v:Value) (w:World) (hR:Row 8 ic w l v) (hm:l.length ≤ 30000) :
   Calls Tryz.prog 56 #[v] w fun e w'=>∃ v',e = .returned v' ∧ OwnI w' w.heap.size l v' ∧ Below w.heap.size w w':=by
 obtain ⟨oa,cap,b,o,rfl,h⟩:=hR
 exact zqe oa l.length cap (zas l) w (zc5 l) (fun h0=>⟨b,o,(h.at0 h0).1,(h.at0 h0).2,fun j u hu=>by
   obtain ⟨rfl,_⟩:=h.at0 h0
   have:=zie h rfl j u hu
   rwa [zfd] at this⟩) (zi8 l) hm h.max
theorem zn8 (l:List ByteArray) (v:Value) (w:World) (hR:TxW w l v) (hm:l.length ≤ 30000) :
   Calls Tryz.prog 116 #[v] w fun e w'=>∃ v',e = .returned v' ∧ OwnT w' w.heap.size l v' ∧ Below w.heap.size w w':=by
 obtain ⟨oa,cap,b,o,rfl,h⟩:=hR
 exact zqg oa l.length cap (txC l) w (by simp [txC]) (fun h0=>⟨b,o,(h.at0 h0).1,(h.at0 h0).2,fun j u hu=>by
   unfold txC at hu
   rw [List.getElem?_map] at hu
   obtain ⟨s,hs,rfl⟩:=Option.map_eq_some_iff.1 hu
   exact h.cell j s hs⟩) (fun u hu=>by
   unfold txC at hu
   obtain ⟨s,_,rfl⟩:=List.mem_map.1 hu
   rfl) hm h.max
theorem zn6 (l:List Fr) (U:Nat → Value) (oa:Option Addr) (cap b o:Nat) (w:World) (h:FrAt w l U oa cap b o) (hm:l.length ≤ 30000) :
   Calls Tryz.prog 115 #[.slice oa l.length cap] w fun e w'=>∃ v',e = .returned v' ∧ w'.ownsRow w.heap.size 105 9 v' l.length (frCs U 0 l) ∧ Below w.heap.size w w' :=
 zqd oa l.length cap (frCs U 0 l) w (zcy U 0 l) (fun h0=>⟨b,o,(h.at0 h0).1,(h.at0 h0).2,fun j u hu=>by
   obtain ⟨rfl,_⟩:=h.at0 h0
   have:=zmc h j u hu
   rwa [zfd] at this⟩) (zmm h) hm h.max
theorem zn7 (l:List Pr) (V:Nat → Value) (oa:Option Addr) (cap b o:Nat) (w:World) (hc:cap ≤ maxLen) (hn:0 < l.length → oa = some ⟨b,o,none⟩ ∧ b < w.heap.size)
   (hcell:∀ i p,l[i]? = some p → ∀ j u,(pc p (V i))[j]? = some u → w.cell? ⟨b,o + i * 5 + j,none⟩ = some u) (h1:∀ i p,l[i]? = some p → (V i).oneCell' = true) (hm:l.length ≤ 30000) :
   Calls Tryz.prog 96 #[.slice oa l.length cap] w fun e w'=>∃ v',e = .returned v' ∧ w'.ownsRow w.heap.size 40 5 v' l.length (zaz V 0 l) ∧ Below w.heap.size w w' :=
 zqf oa l.length cap (zaz V 0 l) w (zpg V 0 l) (fun h0=>⟨b,o,(hn h0).1,(hn h0).2,fun j u hu=>by
   have hj:=(List.getElem?_eq_some_iff.1 hu).1
   rw [zpg] at hj
   have hp:l[j / 5]? = some l[j / 5]:=List.getElem?_eq_getElem (by omega)
   have e:j = j / 5 * 5 + j % 5:=by omega
   rw [e,zfi V 0 l _ _ hp _ (by omega),Nat.zero_add] at hu
   have:=hcell _ _ hp _ _ hu
   rw [show o + j / 5 * 5 + j % 5 = o + j by omega] at this
   exact this⟩) (zw6 fun i p hp=>by rw [Nat.zero_add];exact h1 i p hp) hm hc
end Go.Proofs.YthnllikalobmeaaGreat
