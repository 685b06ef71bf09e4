/- Joined: LConc, Gen, LPut, LBoth. -/
import Derived.Test.YtodfhabkdaiopaaGreatJ18
import Derived.Shelf.Spec.SlicesGrow
import Derived.Lib.AppendZeros
import Derived.Test.YtodfhabkdaiopaaGreatJ14
import Derived.Test.YtodfhabkdaiopaaGreatJ15
import Derived.Test.YtodfhabkdaiopaaGreatJ22
import Derived.Test.YtodfhabkdaiopaaGreatJ12
import Derived.Deep.RegionLaw
import Derived.Deep.RegionHeld3
import Derived.Laws.MakeOwn
namespace Go.Proofs.YtodfhabkdaiopaaGreat
set_option linter.unusedVariables false
set_option linter.unusedSimpArgs false
set_option maxRecDepth 100000
set_option maxHeartbeats 8000000
open Go.RowKit
theorem y23h {p:Prop} (h:p):Go.RowKit.Hid p:=Lib.hid h
def growI_ren:Go.Shelf.Ren:=⟨fun | 4=>203 | n=>n,
 fun | 22=>33 | 25=>58 | 3=>3 | 4=>4 | 9=>9 | 20=>20 | 0=>0 | n=>n,
 fun | n=>n⟩
theorem zxy:Go.Proofs.Lays8.n4 Tryz.prog growI_ren:={
 mixed:=by kernel_rfl,
 f4:=⟨Tryz.f203.name,by decide,Tryz.func203.trans (congrArg some (by kernel_rfl))⟩,
 t0:=Tryz.underlying0,
 a0:=Tryz.isAgg0,
 z0:=Tryz.sizeOf0,
 v0:=Tryz.zeroValue0,
 t3:=Tryz.underlying3,
 a3:=Tryz.isAgg3,
 z3:=Tryz.sizeOf3,
 v3:=Tryz.zeroValue3,
 t4:=Tryz.underlying4,
 a4:=Tryz.isAgg4,
 z4:=Tryz.sizeOf4,
 v4:=Tryz.zeroValue4,
 t9:=Tryz.underlying9,
 a9:=Tryz.isAgg9,
 z9:=Tryz.sizeOf9,
 v9:=Tryz.zeroValue9,
 t20:=Tryz.underlying20,
 a20:=Tryz.isAgg20,
 z20:=Tryz.sizeOf20,
 v20:=Tryz.zeroValue20,
 t22:=Tryz.underlying33,
 a22:=Tryz.isAgg33,
 z22:=Tryz.sizeOf33,
 v22:=Tryz.zeroValue33 }
theorem zpy (n:Nat) (hn:n≤20000) (w:World) :
   Calls Tryz.prog 203 #[.slice none 0 0,.int .i64 n] w fun e w'=>∃ v,e=.returned v∧OwnI w' w.heap.size [] v∧Below w.heap.size w w':=by
 obtain ⟨j0,hj,hy0,hy1,hy2⟩:=info_parts zct
 by_cases h0:n=0
 · subst h0
   refine (Any8.slices_Grow_room zxy none 0 0 0 w (by omega) (by omega) (by omega) (by omega)).mono ?_
   rintro e w' ⟨rfl,rfl⟩
   exact ⟨_,rfl,OwnI.nil _ _,Below.refl _ _⟩
 · refine (Any8.slices_Grow_grow zxy j0 _ hj hy0 (by rw [hy1];omega) none 0 0 n [] w (by omega) (by omega) (by rw [hy2];omega) (by omega) (by simp) (fun _=>rfl) (fun a h=>by cases h)).mono ?_
   rintro e w' ⟨rfl,rfl⟩
   have hge:=grownCap_ge w (0 + n) 0 (growI_ren.t 25)
   have hle:=grownCap_le_maxLen w (0 + n) 0 (growI_ren.t 25) (by unfold maxLen;omega)
   refine ⟨_,rfl,⟨by simp [zay],.inr ⟨w.heap.size,_,_,rfl,Nat.le_refl _,heap_alloc_new w.drew _,by simp,hle,?_,by simp [zay]⟩⟩,(Below.refl _ _).drew.alloc (Nat.le_refl _) _⟩
   simp only [Array.size_append,List.size_toArray,size_zeroCells,List.length_nil,Nat.zero_add,Nat.sub_zero]
   rw [← Nat.add_mul]
   rw [show (Value.cells (.agg #[.string ⟨#[]⟩,.int .i64 0,.int .i64 0,.int .i64 0,.string ⟨#[]⟩,.int .i64 0,.complex .f64 0 0,.bool false])).size=8 from rfl]
   congr 1
   simp only [Nat.zero_add] at hge
   omega
theorem zso (a:Addr) (w:World):(storeCells a []).run Tryz.prog w=.ok () w:=by simp [storeCells]
theorem zj8 (ty:TypeId) (base oa:Option Addr) (n cap c:Nat) (hn:n≤cap) (w:World) :
   (Builtin.append_ #[33,33] ty #[.slice base n cap,.slice oa 0 c]).run Tryz.prog w=.ok (.slice base n cap) w:=by
 obtain ⟨j0,hj,hy0,hy1,hy2⟩:=info_parts zct
 have hf:(Builtin.firstCells j0.size 0 (.slice oa 0 c)).run Tryz.prog w=.ok #[] w:=by
   cases oa with
   | none=>exact run_firstCells_none w _ _ _ _
   | some a=>exact run_firstCells_some w j0.size 0 a 0 c [] (by simp) (fun j v h=>by simp at h)
 cases base with
 | none=>simp [Builtin.append_,run_underlying Tryz.underlying33,sizeOf,typeInfo,hj,Builtin.lenOf,hn,hf,Result.andThen]
 | some a=>simp [Builtin.append_,run_underlying Tryz.underlying33,sizeOf,typeInfo,hj,Builtin.lenOf,hn,hf,zso,Result.andThen]
theorem zje (l:List Itm):∀ u∈zay l,u.oneCell'=true:=by
 intro u hu
 unfold zay at hu
 obtain ⟨i,_,hi⟩:=List.mem_flatMap.1 hu
 exact zea i u hi
theorem zbn (ty:TypeId) {w:World} {base:Nat} {v sv:Value} {l m:List Itm} (hown:OwnI w base l v) (hM:Row 8 ic w m sv) (hn:l.length + m.length≤30000) (hbase:base≤w.heap.size) :
   ∃ v' w',(Builtin.append_ #[33,33] ty #[v,sv]).run Tryz.prog w=.ok v' w'∧OwnI w' base (l ++ m) v'∧w.grownBy w' v.ownBlock:=by
 obtain ⟨oa,cap,b,o,rfl,h⟩:=hM
 obtain ⟨j0,hj,hy0,hy1,hy2⟩:=info_parts zct
 by_cases h0:m.length=0
 · have e:m=[]:=List.length_eq_zero_iff.1 h0
   subst e
   obtain ⟨ov,cv,gv,e,h1,_⟩:=zaq hown
   subst e
   refine ⟨_,w,zj8 ty ov oa l.length cv cap h1 w,?_,⟨rfl,rfl,rfl,Nat.le_refl _,fun _ _ _=>rfl⟩⟩
   rw [List.append_nil];exact hown
 · obtain ⟨rfl,hb⟩:=h.at0 (by omega)
   obtain ⟨v',w',r1,r2,r3,_⟩:=run_append_own w base 33 ty 58 j0 _ 8 88 Tryz.underlying33 hj hy0 hy1 hy2 rfl (by omega) v l.length (zay l) hown ⟨b,o,none⟩ m.length cap (zay m) (ze8 m) (zij h rfl) (zje m) (by unfold maxLen;omega) (by omega) hbase
   refine ⟨v',w',r1,?_,r3⟩
   unfold OwnI
   rw [zhk,List.length_append]
   exact r2
structure SrcI (N:Nat) (w:World) (L:Nat→List Itm) (V:Nat→Value) (bs:Nat):Prop where
 lt:bs < w.heap.size
 cell:∀ k,k < N→w.cell? ⟨bs,k,none⟩=some (V k)
 lies:∀ k,k < N→Row 8 ic w (L k) (V k)
 len:∀ k,k < N→(L k).length≤2000
def catI (L:Nat→List Itm):Nat→List Itm
 | 0=>[]
 | k + 1=>catI L k ++ L k
theorem SrcI.tot {N:Nat} {w:World} {L:Nat→List Itm} {V:Nat→Value} {bs:Nat} (h:SrcI N w L V bs):∀ k,k≤N→(catI L k).length≤2000 * k:=by
 intro k
 induction k with
 | zero=>intro _;simp [catI]
 | succ k ih =>
   intro hk
   have h1:=ih (by omega)
   have h2:=h.len k (by omega)
   simp only [catI,List.length_append];omega
def SumI (N:Nat) (L:Nat→List Itm) (w0:World) (s i:Value) (wr:World):Prop:=∃ k:Nat,k≤N∧i=.int .i64 k∧s=.int .i64 (catI L k).length∧Hid (w0=wr)
def CatR (N:Nat) (L:Nat→List Itm) (w0:World) (v i:Value) (wr:World):Prop :=
 ∃ k:Nat,k≤N∧i=.int .i64 k∧Hid (OwnI wr w0.heap.size (catI L k) v)∧Hid (Below w0.heap.size w0 wr)
theorem zh2 (N:Nat) (hN:N≤5) (L:Nat→List Itm) (V:Nat→Value) (bs:Nat) (w:World) (hS:SrcI N w L V bs) :
   Calls Tryz.prog 143 #[.slice (some ⟨bs,0,none⟩) N N] w fun e w'=>∃ v,e=.returned v∧OwnI w' w.heap.size (catI L N) v∧Below w.heap.size w w':=by
 have HS:=y23h hS
 have G:=fun w'=>y23h (zpy (catI L N).length (by have:=HS.out.tot N (Nat.le_refl _);omega) w')
 clear hS
 go_enter Tryz.func143,Tryz.ntmps143
 go_wp2_with fail
 go_loopw [3,11] (fun s i wr=>SumI N L w s i wr) (fun _ i _=>N - (intOf i).toNat)
 case atStart=>exact ⟨0,by omega,rfl,rfl,rfl⟩
 case round =>
   obtain ⟨k,hk,rfl,rfl,hw⟩:=hrel
   have ew:=hw.out
   subst ew
   clear hw
   by_cases hlt:k < N
   · obtain ⟨oa,cap,hV⟩:=(HS.out.lies k hlt).val
     have cv:=HS.out.cell k hlt
     rw [hV] at cv
     have zb:=HS.out.lt
     have t1:=HS.out.tot k hk
     have t2:=HS.out.len k hlt
     have t3:(catI L (k + 1)).length=(catI L k).length + (L k).length:=by simp [catI]
     have k0:(0:Int)≤(k:Int):=by omega
     have k1:(k:Int) < (N:Int):=by omega
     have HT:=y23h t3
     clear t3 hV
     generalize (L k).length=m at *
     generalize ht:(catI L k).length=t at *
     have hneg:decide (((t:Int) + (m:Int)) < 0)=false:=decide_eq_false (by omega)
     go_wp2_with fail
     go_roundw
     case rel=>exact ⟨k + 1,by omega,by go_num,by rw [HT.out];go_num,rfl⟩
     case measure=>simp [intOf];omega
   · have e:k=N:=by omega
     subst e
     go_wp2_with (go_at_call 203;refine (G _).out.mono ?_;rintro e w1 ⟨v0,rfl,hr0,hb0⟩)
     have C0:CatR k L w v0 (.int .i64 0) w1:=⟨0,by omega,rfl,hr0,hb0⟩
     clear hr0 hb0
     go_loopw [6,27] (fun v i wr=>CatR k L w v i wr) (fun _ i _=>k - (intOf i).toNat)
     case atStart=>exact C0
     case round =>
       clear C0
       obtain ⟨q,hq,rfl,HR,HB⟩:=hrel
       by_cases hlt:q < k
       · have LR:=(HS.out.lies q hlt).later HB.out
         obtain ⟨oa,cap,hV⟩:=LR.val
         have cv:=(HB.out.cell (p:=⟨bs,q,none⟩) HS.out.lt).trans (HS.out.cell q hlt)
         rw [hV] at cv LR
         have zb:bs < wr.heap.size:=Nat.lt_of_lt_of_le HS.out.lt HB.out.size
         have t1:=HS.out.tot q hq
         have t2:=HS.out.len q hlt
         have k0:(0:Int)≤(q:Int):=by omega
         have k1:(q:Int) < (k:Int):=by omega
         have HA:=y23h (fun ty=>zbn ty HR.out LR (by omega) HB.out.size)
         obtain ⟨ov,cvv,hrv⟩:=HR.out.len
         subst hrv
         clear LR hV
         go_wp2_with (at_builtin;obtain ⟨v',w',hrun,hown,hgr⟩:=HA.out _;refine Lib.wpList_append_run _ rfl _ _ _ _ rfl _ _ rfl rfl _ _ hrun ?_)
         have HB2:=y23h (zbh HR.out HB.out (Nat.le_refl _) hgr HB.out.size)
         go_roundw
         case rel=>exact ⟨q + 1,by omega,by go_num,hown,HB2⟩
         case measure=>simp [intOf];omega
       · have e:q=k:=by omega
         subst e
         go_wp2_with fail
         go_ret
         exact ⟨_,rfl,HR.out,HB.out⟩
end Go.Proofs.YtodfhabkdaiopaaGreat
namespace Go.Proofs.YtodfhabkdaiopaaGreat
set_option linter.unusedVariables false
set_option linter.unusedSimpArgs false
set_option maxRecDepth 100000
set_option maxHeartbeats 8000000
open Go.ChangeShapes Go.WideShapes Go.ChangeAt Go.RowKit Go.Deep
structure RGAt {α:Type} (sz:Nat) (f:α→List Value) (w:World) (l:List α) (oa:Option Addr) (cap b o:Nat):Prop where
 len:l.length≤cap
 max:cap≤maxLen
 at0:0 < l.length→oa=some ⟨b,o,none⟩∧b < w.heap.size
 cell:∀ k x,l[k]?=some x→∀ j u,(f x)[j]?=some u→w.cell? ⟨b,o + k * sz + j,none⟩=some u
def RG {α:Type} (sz:Nat) (f:α→List Value) (w:World) (l:List α) (v:Value):Prop:=∃ oa cap b o,v=.slice oa l.length cap∧RGAt sz f w l oa cap b o
section
variable {α:Type} {sz:Nat} {f:α→List Value} {w w':World} {l:List α} {v:Value} {oa:Option Addr} {cap b o:Nat}
theorem RGAt.later (h:RGAt sz f w l oa cap b o) (hb:Below w.heap.size w w'):RGAt sz f w' l oa cap b o:=by
 refine ⟨h.len,h.max,fun h0=>⟨(h.at0 h0).1,Nat.lt_of_lt_of_le (h.at0 h0).2 hb.size⟩,fun k x hk j u hu=>?_⟩
 have hlt:b < w.heap.size:=(h.at0 (by have:=(List.getElem?_eq_some_iff.1 hk).1;omega)).2
 exact (hb.cell (p:=⟨b,o + k * sz + j,none⟩) hlt).trans (h.cell k x hk j u hu)
theorem RG.later (h:RG sz f w l v) (hb:Below w.heap.size w w'):RG sz f w' l v:=by
 obtain ⟨oa,cap,b,o,e,h⟩:=h
 exact ⟨oa,cap,b,o,e,h.later hb⟩
end
section
variable {α:Type} {H:Type} {enc:TypeId × Value→H} {P:Program} {w:World} {base:Nat} {spare:Nat→Bool} {held:Bool} {fuel:Nat} {cs:List Value} {x:DataW H × List MemPlace}
theorem zze [Inhabited α] {t e:TypeId} (ht:P.underlying t=some (.slice e)) {sz:Nat} (hC:P.cellsOf e=sz) (h0:0 < sz) (f:α→List Value) (hf:∀ a,(f a).length=sz) (ok:α→Prop)
   (el:∀ fuel cs x,DataW.trod enc P w base spare held fuel e cs=some x→∃ a,cs=f a∧ok a)
   (h:DataW.trod enc P w base spare held fuel t cs=some x):∃ (l:List α) (v:Value),cs=[v]∧RG sz f w l v∧∀ a∈l,ok a:=by
 rcases open_slice ht h with ⟨rfl,_⟩ | ⟨a,len,cap,m,n,D,Pl,rfl,_,hl,hm,hmm,_,hx⟩
 · exact ⟨[],_,rfl,⟨none,0,0,0,rfl,Nat.le_refl _,by decide,fun h=>absurd h (by simp),fun k f hk=>by simp at hk⟩,fun i hi=>by simp at hi⟩
 · have hlm:len≤m:=by rw [hmm];split <;> omega
   rw [hC] at hx
   have key:∀ i,i < len→∃ (q:α),(∀ j z,(f q)[j]?=some z→w.cell? (a.add (i * sz + j))=some z)∧ok q:=by
     intro i hi
     obtain ⟨cs',h2,h3⟩:=hx i (by omega)
     obtain ⟨_,hcl,hat⟩:=World.cells?_some h2
     obtain ⟨d,rfl,hd⟩:=el _ _ _ h3
     refine ⟨d,fun j z hz=>?_,hd⟩
     have hj:j < sz:=by have:=(List.getElem?_eq_some_iff.1 hz).1;rw [hf] at this;exact this
     rw [← Go.Deep.add_add,hat j hj,hz]
   classical
   let F:Nat→α:=fun i=>if h:i < len then (key i h).choose else default
   have hF:∀ i,i < len→(∀ j z,(f (F i))[j]?=some z→w.cell? (a.add (i * sz + j))=some z)∧ok (F i):=by
     intro i hi
     have:=(key i hi).choose_spec
     simp only [F,dif_pos hi]
     exact this
   have hlk:((List.range len).map F).length=len:=by simp
   have hs:0 < len→a.spot=none∧a.block < w.heap.size:=by
     intro h1
     have hlt:0 < (f (F 0)).length:=by rw [hf];exact h0
     have h1:=(hF 0 h1).1 0 _ (List.getElem?_eq_getElem hlt)
     have e:a.add (0 * sz + 0)=a:=by simp [Addr.add]
     rw [e] at h1
     exact ⟨World.cell?_spot h1,World.block_lt_of_cell? w _ h1⟩
   refine ⟨(List.range len).map F,_,rfl,⟨some a,cap,a.block,a.off,by rw [hlk],by rw [hlk];exact hl,hm,fun h=>?_,fun k q hk j z hz=>?_⟩,fun q hq=>?_⟩
   · rw [hlk] at h
     exact ⟨congrArg some (zvc (hs h).1),(hs h).2⟩
   · obtain ⟨hk',rfl⟩:=zmp F hk
     have h1:=(hF k hk').1 j z hz
     rw [zqj (hs (by omega)).1] at h1
     rw [Nat.add_assoc];exact h1
   · obtain ⟨k,hk,e⟩:=List.mem_iff_getElem.1 hq
     obtain ⟨hk',rfl⟩:=zmp F (by rw [List.getElem?_eq_getElem hk,e])
     exact (hF k hk').2
end
end Go.Proofs.YtodfhabkdaiopaaGreat
namespace Go.Proofs.YtodfhabkdaiopaaGreat
set_option linter.unusedVariables false
set_option linter.unusedSimpArgs false
set_option maxRecDepth 100000
set_option maxHeartbeats 8000000
open Go.RowKit
theorem zx2 (l:List Itm) (id:ByteArray):toI l id≤l.length:=by
 have hk:=zgi l id
 unfold toI
 cases hh:hitI l id with
 | false=>simpa using hk
 | true =>
   unfold hitI at hh
   cases e:l[posI l id]? with
   | none=>rw [e] at hh;cases hh
   | some i=>have:=zbo e;simp only [if_true];omega
theorem zfj (b o n:Nat):(⟨b,o,none⟩:Addr).add n=⟨b,o + n,none⟩:=by
 unfold Addr.add;split <;> simp_all
theorem Row.slice {w:World} {l:List Itm} {oa:Option Addr} {n cap:Nat} (h:Row 8 ic w l (.slice oa n cap)) (t:Nat) (ht:t≤l.length):Row 8 ic w (l.drop t) (.slice (Option.map (fun x=>x.add (t * 8)) oa) (n - t) (cap - t)):=by
 obtain ⟨oa',cap',b,o,e,h⟩:=h
 cases e
 have hc:=h.len
 have hm:=h.max
 refine ⟨_,cap - t,b,o + t * 8,by rw [List.length_drop],by rw [List.length_drop];omega,by omega,fun h0=>?_,fun k i hk j u hu=>?_,fun i hi=>h.ok i (List.mem_of_mem_drop hi)⟩
 · rw [List.length_drop] at h0
   obtain ⟨rfl,hb⟩:=h.at0 (by omega)
   exact ⟨by simp only [Option.map_some,zfj],hb⟩
 · rw [List.getElem?_drop] at hk
   have:=h.cell (t + k) i hk j u hu
   rw [show o + t * 8 + k * 8 + j=o + (t + k) * 8 + j by omega]
   exact this
theorem Row.none {w:World} {l:List Itm} {oa:Option Addr} {n cap:Nat} (h:Row 8 ic w l (.slice oa n cap)):Row 8 ic w (l.drop cap) (.slice oa 0 0):=by
 obtain ⟨oa',cap',b,o,e,h⟩:=h
 cases e
 have hc:=h.len
 have e:l.drop cap=[]:=List.drop_eq_nil_of_le hc
 rw [e]
 exact ⟨_,0,b,o,rfl,Nat.le_refl _,by decide,fun h0=>by simp at h0,fun k i hk=>by simp at hk,fun i hi=>by simp at hi⟩
theorem Row.upto {w:World} {l:List Itm} {oa:Option Addr} {n cap:Nat} (h:Row 8 ic w l (.slice oa n cap)) (k:Nat) (hk:k≤l.length):Row 8 ic w (l.take k) (.slice oa k cap):=by
 have e:=h.take k
 rw [List.length_take,show min k l.length=k by omega] at e
 exact e
theorem zm6 (a b:List Itm) (va vb:Value) (bs:Nat) (w:World) (hlt:bs < w.heap.size) (c0:w.cell? ⟨bs,0,none⟩=some va) (c1:w.cell? ⟨bs,1,none⟩=some vb) (ha:Row 8 ic w a va) (hb:Row 8 ic w b vb) (la:a.length≤2000) (lb:b.length≤2000) :
   Calls Tryz.prog 143 #[.slice (some ⟨bs,0,none⟩) 2 2] w fun e w'=>∃ v,e=.returned v∧OwnI w' w.heap.size (a ++ b) v∧Below w.heap.size w w':=by
 have h:=zh2 2 (by omega) (fun k=>if k=0 then a else b) (fun k=>if k=0 then va else vb) bs w ⟨hlt,fun k hk=>?_,fun k hk=>?_,fun k hk=>?_⟩
 · simpa [catI] using h
 · obtain rfl | rfl:k=0 ∨ k=1:=by omega
   · simpa using c0
   · simpa using c1
 · obtain rfl | rfl:k=0 ∨ k=1:=by omega
   · simpa using ha
   · simpa using hb
 · obtain rfl | rfl:k=0 ∨ k=1:=by omega
   · simpa using la
   · simpa using lb
theorem zm7 (a b c:List Itm) (va vb vc:Value) (bs:Nat) (w:World) (hlt:bs < w.heap.size) (c0:w.cell? ⟨bs,0,none⟩=some va) (c1:w.cell? ⟨bs,1,none⟩=some vb) (c2:w.cell? ⟨bs,2,none⟩=some vc) (ha:Row 8 ic w a va) (hb:Row 8 ic w b vb) (hc:Row 8 ic w c vc) (la:a.length≤2000) (lb:b.length≤2000) (lc:c.length≤2000) :
   Calls Tryz.prog 143 #[.slice (some ⟨bs,0,none⟩) 3 3] w fun e w'=>∃ v,e=.returned v∧OwnI w' w.heap.size (a ++ (b ++ c)) v∧Below w.heap.size w w':=by
 have h:=zh2 3 (by omega) (fun k=>if k=0 then a else if k=1 then b else c) (fun k=>if k=0 then va else if k=1 then vb else vc) bs w ⟨hlt,fun k hk=>?_,fun k hk=>?_,fun k hk=>?_⟩
 · simpa [catI] using h
 · obtain rfl | rfl | rfl:k=0 ∨ k=1 ∨ k=2:=by omega
   · simpa using c0
   · simpa using c1
   · simpa using c2
 · obtain rfl | rfl | rfl:k=0 ∨ k=1 ∨ k=2:=by omega
   · simpa using ha
   · simpa using hb
   · simpa using hc
 · obtain rfl | rfl | rfl:k=0 ∨ k=1 ∨ k=2:=by omega
   · simpa using la
   · simpa using lb
   · simpa using lc
theorem zlx {l m:List Itm} (h:∀ i∈l,i.id.size≤maxLen∧i.kd.size≤maxLen) (hs:∀ i∈m,i∈l):∀ i∈m,i.id.size≤maxLen∧i.kd.size≤maxLen:=fun i hi=>h i (hs i hi)
theorem zcu (l:List Itm) (id:ByteArray) (v:Value) (w:World) (hR:Row 8 ic w l v) (hr:zap l) (hl:l.length≤1000) (hid:id.size≤maxLen) :
   Calls Tryz.prog 65 #[v,.string id] w fun e w'=>∃ v',e=.returned v'∧OwnI w' w.heap.size (l.filter (neB id)) v'∧Below w.heap.size w w':=by
 have S:=y23h (zhd l id v w hR hr (by omega))
 have HO:=y23h (zlx (m:=l.filter (neB id)) hR.oks fun i hi=>(List.mem_filter.1 hi).1)
 have E:=y23h (zrn (id:=id) hr)
 have LR:=y23h hR
 obtain ⟨oa,cap,rfl⟩:=hR.val
 have kx:=hR.cap
 have hk:=zgi l id
 have ht:=zx2 l id
 clear hR hr
 generalize toI l id=t at *
 generalize posI l id=k at *
 have q1:(0:Int)≤(k:Int):=by omega
 have q2:(k:Int)≤(cap:Int):=by omega
 have q3:(0:Int)≤(t:Int):=by omega
 have q4:(t:Int)≤(l.length:Int):=by omega
 go_enter Tryz.func65,Tryz.ntmps65
 go_upto_region 2 with (go_at_call 136;refine S.out.mono ?_;rintro e w1 ⟨rfl,hb⟩;replace LR:=y23h (LR.out.later hb))
 have W2:∀ x y:Value,Hid (Row 8 ic w1 (l.take k) x→Row 8 ic w1 (l.drop t) y→Calls Tryz.prog 143 #[.slice (some ⟨w1.heap.size,0,none⟩) 2 2] (w1.alloc (.cells #[x,y] 33)).drew fun e w'=>∃ v,e=.returned v∧OwnI w' (w1.heap.size + 1) (l.filter (neB id)) v∧Below w1.heap.size w1 w'):=fun x y=>y23h (fun hx hy=>by
   have h:=zm6 (l.take k) (l.drop t) x y w1.heap.size (w1.alloc (.cells #[x,y] 33)).drew (by simp) ((Has.new w1 #[x,y] 33).cell 0) ((Has.new w1 #[x,y] 33).cell 1) (hx.alloc _).drew (hy.alloc _).drew (by rw [List.length_take];omega) (by rw [List.length_drop];omega)
   rw [E.out] at h
   refine h.mono ?_
   rintro e w' ⟨v,he,ho,hb⟩
   exact ⟨v,he,by simpa using ho,(((Below.refl _ _).alloc (Nat.le_refl _) _).drew).trans (hb.mono (by simp))⟩)
 refine za2 6 (by kernel_rfl) (by kernel_rfl) ?_
 simp only [List.take_succ_cons,List.take_zero,List.drop_succ_cons,List.drop_zero]
 by_cases hq:cap=t
 · subst hq
   repeat (first | still_step)
   refine wpStill_nil ?_
   go_wp2_with fail
   refine ((W2 _ _).out (LR.out.upto k hk) (LR.out.none)).mono ?_
   rintro e w2 ⟨v,rfl,ho,hb2⟩
   go_wp2_with fail
   go_ret
   exact ⟨_,rfl,ho.mono (by have:=hb.size;omega),hb.trans (hb2.mono hb.size)⟩
 · repeat (first | still_step)
   refine wpStill_nil ?_
   go_wp2_with fail
   refine ((W2 _ _).out (LR.out.upto k hk) (LR.out.slice t ht)).mono ?_
   rintro e w2 ⟨v,rfl,ho,hb2⟩
   go_wp2_with fail
   go_ret
   exact ⟨_,rfl,ho.mono (by have:=hb.size;omega),hb.trans (hb2.mono hb.size)⟩
theorem zen (l:List Itm) (x:Itm) (v:Value) (w:World) (hR:Row 8 ic w l v) (hr:zap l) (hl:l.length≤1000) (hx:x.id.size≤maxLen∧x.kd.size≤maxLen) :
   Calls Tryz.prog 66 #[v,iV x] w fun e w'=>∃ v',e=.returned v'∧OwnI w' w.heap.size (putI l x) v'∧Below w.heap.size w w':=by
 have LR:=y23h (hR.alloc (.cells (iA x) 58))
 have S:=y23h (zhd l x.id v _ LR.out hr (by omega))
 have OX:=y23h (Has.new w (iA x) 58)
 have BEL:=y23h ((Below.refl w.heap.size w).alloc (Nat.le_refl _) (.cells (iA x) 58))
 have E:=y23h (zun (x:=x) hr)
 have HO:=y23h (show ∀ i∈putI l x,i.id.size≤maxLen∧i.kd.size≤maxLen from fun i hi=>by
   rcases mem_put.1 hi with e | ⟨e,_⟩
   · rw [e];exact hx
   · exact hR.oks i e)
 obtain ⟨oa,cap,rfl⟩:=hR.val
 have kx:=hR.cap
 have hk:=zgi l x.id
 have ht:=zx2 l x.id
 have HX:=y23h hx
 clear hR hr hx
 generalize toI l x.id=t at *
 generalize posI l x.id=k at *
 have q1:(0:Int)≤(k:Int):=by omega
 have q2:(k:Int)≤(cap:Int):=by omega
 have q3:(0:Int)≤(t:Int):=by omega
 have q4:(t:Int)≤(l.length:Int):=by omega
 go_enter Tryz.func66,Tryz.ntmps66
 have l0:=OX.out.cell
 have z0:=OX.out.lt
 go_upto_region 2 with (go_at_call 136;clear l0 z0;refine S.out.mono ?_;rintro e w1 ⟨rfl,hb⟩;replace LR:=y23h (LR.out.later hb);replace OX:=y23h (OX.out.below hb OX.out.lt);replace BEL:=y23h (BEL.out.trans (hb.mono BEL.out.size)))
 have l1:=OX.out.cell
 have z1:=OX.out.lt
 have zb:=BEL.out.size
 have W3:∀ (B:Nat) (va vc:Value),Hid (B=w1.heap.size + 1→Row 8 ic w1 (l.take k) va→Row 8 ic w1 (l.drop t) vc→Calls Tryz.prog 143 #[.slice (some ⟨B,0,none⟩) 3 3] ((w1.alloc (.cells (iA x) 58)).alloc (.cells #[va,.slice (some ⟨w1.heap.size,0,none⟩) 1 1,vc] 33)).drew fun e w'=>∃ v,e=.returned v∧OwnI w' (w1.heap.size + 2) (putI l x) v∧Below w1.heap.size w1 w'):=fun B va vc=>y23h (fun hB ha hc=>by
   subst hB
   have o1:=(zfp w1 x 58 HX.out)
   have hs:=Has.new (w1.alloc (.cells (iA x) 58)) #[va,.slice (some ⟨w1.heap.size,0,none⟩) 1 1,vc] 33
   have h:=zm7 (l.take k) [x] (l.drop t) va (.slice (some ⟨w1.heap.size,0,none⟩) 1 1) vc (w1.alloc (.cells (iA x) 58)).heap.size ((w1.alloc (.cells (iA x) 58)).alloc (.cells #[va,.slice (some ⟨w1.heap.size,0,none⟩) 1 1,vc] 33)).drew hs.drew.lt (hs.drew.cell 0) (hs.drew.cell 1) (hs.drew.cell 2) ((ha.alloc _).alloc _).drew (o1.alloc _).drew ((hc.alloc _).alloc _).drew (by rw [List.length_take];omega) (by simp) (by rw [List.length_drop];omega)
   rw [E.out,show (w1.alloc (.cells (iA x) 58)).heap.size=w1.heap.size + 1 by simp] at h
   refine h.mono ?_
   rintro e w' ⟨v,he,ho,hb⟩
   exact ⟨v,he,by simpa using ho,((((Below.refl _ _).alloc (Nat.le_refl _) _).alloc (by simp) _).drew).trans (hb.mono (by simp;omega))⟩)
 by_cases hq:cap=t
 · subst hq
   go_region_held3 (fun w'=>∀ o,w'.cell? ⟨w.heap.size,o,none⟩=(iA x)[o]?) (first | with_reducible exact OX2.out.cell | with_reducible exact OX.out.cell | with_reducible exact OX.out.drew.cell | with_reducible exact ((OX.out.alloc _).drew).cell | with_reducible exact ((OX.out.alloc _).drew.alloc _).cell | with_reducible exact (((OX.out.alloc _).alloc _).drew).cell) (first
     | (go_simp;go_at_call 143;with_reducible refine ((W3 _ _ _).out rfl (LR.out.upto k hk) LR.out.none).mono ?_;rintro e w2 ⟨v,rfl,ho,hb2⟩;have OX2:=y23h (OX.out.below hb2 OX.out.lt))
     | fail)
   go_wp2_with fail
   go_ret
   exact ⟨_,rfl,ho.mono (by have:=BEL.out.size;omega),BEL.out.trans (hb2.mono BEL.out.size)⟩
 · go_region_held3 (fun w'=>∀ o,w'.cell? ⟨w.heap.size,o,none⟩=(iA x)[o]?) (first | with_reducible exact OX2.out.cell | with_reducible exact OX.out.cell | with_reducible exact OX.out.drew.cell | with_reducible exact ((OX.out.alloc _).drew).cell | with_reducible exact ((OX.out.alloc _).drew.alloc _).cell | with_reducible exact (((OX.out.alloc _).alloc _).drew).cell) (first
     | (go_simp;go_at_call 143;with_reducible refine ((W3 _ _ _).out rfl (LR.out.upto k hk) (LR.out.slice t ht)).mono ?_;rintro e w2 ⟨v,rfl,ho,hb2⟩;have OX2:=y23h (OX.out.below hb2 OX.out.lt))
     | fail)
   go_wp2_with fail
   go_ret
   exact ⟨_,rfl,ho.mono (by have:=BEL.out.size;omega),BEL.out.trans (hb2.mono BEL.out.size)⟩
def lenV:Value→Nat
 | .slice _ n _=>n
 | _=>0
theorem zri (st r c st' r' c':Int):cmpV st r c st' r' c'=-1 ∨ cmpV st r c st' r' c'=0 ∨ cmpV st r c st' r' c'=1:=by
 unfold cmpV orI cmpI
 repeat' split
 all_goals simp
theorem zql (a b:Itm):decide (0 < cmpT a b)=behT a b:=by
 unfold behT cmpT
 rcases zri a.st a.r a.c b.st b.r b.c with h | h | h <;> rw [h] <;> decide
theorem zki (a b:Itm) (w:World) :
   Calls Tryz.prog 62 #[iV a,iV b] w fun e w'=>e=.returned (.int .i64 (cmpT a b))∧Below w.heap.size w w' :=
 zm5 a.id a.r a.c a.st a.kd a.num a.x a.y a.d b.id b.r b.c b.st b.kd b.num b.x b.y b.d w
abbrev At8 (w:World) (b o:Nat) (i:Itm):Prop :=
 w.cell? ⟨b,o,none⟩=some (.string i.id)∧w.cell? ⟨b,o + 1,none⟩=some (.int .i64 i.r)∧w.cell? ⟨b,o + 2,none⟩=some (.int .i64 i.c)∧w.cell? ⟨b,o + 3,none⟩=some (.int .i64 i.st)∧w.cell? ⟨b,o + 4,none⟩=some (.string i.kd)∧w.cell? ⟨b,o + 5,none⟩=some (.int .i64 i.num)∧w.cell? ⟨b,o + 6,none⟩=some (.complex .f64 i.x i.y)∧w.cell? ⟨b,o + 7,none⟩=some (.bool i.d)
theorem At8.later {w w':World} {b o:Nat} {i:Itm} (h:At8 w b o i) (hlt:b < w.heap.size) (hb:Below w.heap.size w w'):At8 w' b o i:=by
 obtain ⟨h0,h1,h2,h3,h4,h5,h6,h7⟩:=h
 have e:∀ j,w'.cell? ⟨b,j,none⟩=w.cell? ⟨b,j,none⟩:=fun j=>hb.cell (p:=⟨b,j,none⟩) hlt
 exact ⟨(e _).trans h0,(e _).trans h1,(e _).trans h2,(e _).trans h3,(e _).trans h4,(e _).trans h5,(e _).trans h6,(e _).trans h7⟩
theorem zpa {w:World} {i:Itm} {l:List Itm} {v:Value} (h:Row 8 ic w (i :: l) v):∃ b o cap,v=.slice (some ⟨b,o,none⟩) (l.length + 1) cap∧l.length + 1≤cap∧cap≤maxLen∧b < w.heap.size∧At8 w b o i∧Row 8 ic w (i :: l) (.slice (some ⟨b,o,none⟩) (l.length + 1) cap):=by
 have h':=h
 obtain ⟨oa,cap,b,o,rfl,h⟩:=h
 obtain ⟨rfl,hb⟩:=h.at0 (by simp)
 refine ⟨b,o,cap,rfl,h.len,h.max,hb,?_,h'⟩
 have:=zbe (w:=w) (fun j u hu=>h.cell 0 i rfl j u hu)
 simpa using this
theorem zxc {w:World} {i:Itm} {l:List Itm} {b o n cap:Nat} (h:Row 8 ic w (i :: l) (.slice (some ⟨b,o,none⟩) n cap)) (hn:n=l.length + 1):Row 8 ic w l (.slice (some ⟨b,o + 8,none⟩) l.length (cap - 1)):=by
 have:=h.slice 1 (by simp)
 subst hn
 simpa [zfj] using this
theorem zxb {w:World} {i:Itm} {l:List Itm} {b o n cap:Nat} (h:Row 8 ic w (i :: l) (.slice (some ⟨b,o,none⟩) n cap)) (hn:n=l.length + 1) (hc:cap=1):Row 8 ic w l (.slice (some ⟨b,o,none⟩) l.length 0):=by
 subst hn hc
 have e:=h.none
 have:l.length=0:=by
   obtain ⟨_,_,_,_,e2,h2⟩:=h
   cases e2
   have:=h2.len;simp at this;rw [this];rfl
 rw [this]
 simpa using e
structure BothI (f:Itm→Itm→Bool) (w:World) (R la lb D:List Itm) (wr:World) (v:Value):Prop where
 own:OwnI wr w.heap.size D v
 eq:D ++ mrgI f la lb=R
 len:la.length + lb.length + D.length≤2000
 bel:Below w.heap.size w wr
def zzl (f:Itm→Itm→Bool) (w:World) (R:List Itm) (a b v:Value) (wr:World):Prop :=
 ∃ la lb D:List Itm,Row 8 ic w la a∧Row 8 ic w lb b∧Hid (BothI f w R la lb D wr v)
theorem zes {w:World} {i:Itm} {l:List Itm} {b o n cap:Nat} (h:Row 8 ic w (i :: l) (.slice (some ⟨b,o,none⟩) n cap)) (hn:n=l.length + 1):Row 8 ic w l (.slice (if cap=1 then some ⟨b,o,none⟩ else some ⟨b,o + 8,none⟩) l.length (cap - 1)):=by
 split
 · rename_i hc
   have:=zxb h hn hc
   rw [show cap - 1=0 by omega]
   exact this
 · exact zxc h hn
theorem ze7 {f:Itm→Itm→Bool} {w w1 w2:World} {R la lb la0 lb0 D:List Itm} {v v1:Value} {Z:Itm} (hI:BothI f w R la0 lb0 D w1 v) (ho:OwnI w2 w.heap.size (D ++ [Z]) v1) (hb:Below w.heap.size w w2) (he:mrgI f la0 lb0=Z :: mrgI f la lb) (hl:la.length + lb.length + 1≤la0.length + lb0.length):BothI f w R la lb (D ++ [Z]) w2 v1 :=
 ⟨ho,by rw [List.append_assoc,← hI.eq,he];rfl,by have:=hI.len;rw [List.length_append];simp only [List.length_cons,List.length_nil];omega,hb⟩
theorem zgh (l m:List Itm) (v v':Value) (w:World) (hR:Row 8 ic w l v) (hM:Row 8 ic w m v') (hr:zap l) (hm:zap m) (h1:l.length≤1000) (h2:m.length≤1000) :
   Calls Tryz.prog 60 #[v,v'] w fun e w'=>∃ v2,e=.returned v2∧Row 8 ic w' (zar behT l m) v2∧Below w.heap.size w w':=by
 obtain ⟨i0,hi,hz0,hz1,hz2⟩:=info_parts zct
 have CS:=fun a b w=>y23h (zkh a b w)
 have CT:=fun a b w=>y23h (zki a b w)
 have HA:=y23h hR
 have HB:=y23h hM
 have HO:=y23h (show ∀ i∈mrgI behT l m,i.id.size≤maxLen∧i.kd.size≤maxLen from fun i hi=>by
   rcases ziw (Nat.le_refl _) hi with h | h
   · exact hR.oks i h
   · exact hM.oks i h)
 rw [← zwg hr hm]
 obtain ⟨oa,cap,rfl⟩:=hR.val
 obtain ⟨oa',cap',rfl⟩:=hM.val
 obtain ⟨w',hrun,hown,hgr⟩:=run_makeSlice_owned (P:=Tryz.prog) w w.heap.size 33 58 i0 _ 8 Tryz.underlying33 hi hz0 hz1 .i64 .i64 (l.length + m.length) (by omega) (by rw [hz2];omega) (by unfold maxLen;omega) (Nat.le_refl _)
 rw [Int.natCast_add] at hrun
 have HI:=y23h (show BothI behT w (mrgI behT l m) l m [] w' _ from ⟨hown,rfl,by simp;omega,(Below.refl _ _).grown hgr (Nat.le_refl _) (fun k hk=>by cases hk)⟩)
 clear hown hgr hR hM hr hm
 generalize mrgI behT l m=R at *
 go_enter Tryz.func60,Tryz.ntmps60
 go_wp2_with fail
 go_loopw [0,1,5] (fun a b v wr=>zzl behT w R a b v wr) (fun a b _ _=>lenV a + lenV b)
 case atStart=>exact ⟨l,m,[],HA.out,HB.out,HI.out⟩
 case round =>
   clear HI HA HB hrun
   obtain ⟨la,lb,D,ha,hb,HI⟩:=hrel
   obtain ⟨ov,cv,e⟩:=HI.out.own.len
   subst e
   by_cases hex:la=[] ∨ lb=[]
   · have E:=y23h (show (D ++ la) ++ lb=R by
       have:=HI.out.eq
       rcases hex with h | h
       · subst h;rw [zdk] at this;simpa using this
       · subst h;rw [zf0] at this;simpa using this)
     obtain ⟨oA,cA,rfl⟩:=ha.val
     obtain ⟨oB,cB,rfl⟩:=hb.val
     have HL:=y23h HI.out.len
     have RA:=y23h ha
     have RB:=y23h hb
     obtain ⟨DE,hDE⟩:∃ DE,DE=D ++ la:=⟨_,rfl⟩
     have HDL:=y23h (show DE.length + lb.length≤2000 by rw [hDE,List.length_append];have:=HL.out;omega)
     have HAP:=y23h (fun ty=>zbn ty HI.out.own (RA.out.later HI.out.bel) (by have:=HL.out;omega) HI.out.bel.size)
     rw [← hDE] at HAP E
     clear hDE HL
     have hlen:la.length=0 ∨ lb.length=0:=by
       rcases hex with h | h
       · subst h;exact .inl rfl
       · subst h;exact .inr rfl
     clear hex ha hb
     generalize hna:la.length=na at *
     generalize hnb:lb.length=nb at *
     have HNB:=y23h hnb
     clear hna hnb
     by_cases hz:na=0
     · subst hz
       clear hlen
       go_wp2_with (first
         | (at_builtin;obtain ⟨v1,w1,hrun,hown,hgr⟩:=HAP.out _;refine Lib.wpList_append_run _ rfl _ _ _ _ rfl _ _ rfl rfl _ _ hrun ?_;have B1:=y23h (zbh HI.out.own HI.out.bel (Nat.le_refl _) hgr HI.out.bel.size);have HBP:=y23h (fun ty=>zbn ty hown (RB.out.later B1.out) (by have:=HDL.out;have:=HNB.out;omega) B1.out.size);have HW:=y23h hown;obtain ⟨o1,c1,rfl⟩:=hown.len;clear HAP hgr hown)
         | (at_builtin;obtain ⟨v2,w2,hrun2,hown2,hgr2⟩:=HBP.out _;refine Lib.wpList_append_run _ rfl _ _ _ _ rfl _ _ rfl rfl _ _ hrun2 ?_))
       go_ret
       exact ⟨_,rfl,by rw [E.out] at hown2;exact hown2.row HO.out,zbh HW.out B1.out (Nat.le_refl _) hgr2 B1.out.size⟩
     · have hz2:nb=0:=by omega
       subst hz2
       have g1:(0:Int) < (na:Int):=by omega
       clear hlen
       go_wp2_with (first
         | (at_builtin;obtain ⟨v1,w1,hrun,hown,hgr⟩:=HAP.out _;refine Lib.wpList_append_run _ rfl _ _ _ _ rfl _ _ rfl rfl _ _ hrun ?_;have B1:=y23h (zbh HI.out.own HI.out.bel (Nat.le_refl _) hgr HI.out.bel.size);have HBP:=y23h (fun ty=>zbn ty hown (RB.out.later B1.out) (by have:=HDL.out;have:=HNB.out;omega) B1.out.size);have HW:=y23h hown;obtain ⟨o1,c1,rfl⟩:=hown.len;clear HAP hgr hown)
         | (at_builtin;obtain ⟨v2,w2,hrun2,hown2,hgr2⟩:=HBP.out _;refine Lib.wpList_append_run _ rfl _ _ _ _ rfl _ _ rfl rfl _ _ hrun2 ?_))
       go_ret
       exact ⟨_,rfl,by rw [E.out] at hown2;exact hown2.row HO.out,zbh HW.out B1.out (Nat.le_refl _) hgr2 B1.out.size⟩
   · obtain ⟨x,la,rfl⟩:∃ x l',la=x :: l':=by
       cases la with
       | nil=>exact absurd (.inl rfl) hex
       | cons x l'=>exact ⟨x,l',rfl⟩
     obtain ⟨y,lb,rfl⟩:∃ y l',lb=y :: l':=by
       cases lb with
       | nil=>exact absurd (.inr rfl) hex
       | cons y l'=>exact ⟨y,l',rfl⟩
     clear hex
     have OKx:=y23h (ha.oks x (by simp))
     have OKy:=y23h (hb.oks y (by simp))
     obtain ⟨ba,oA,ca,rfl,ka1,ka2,ka3,ka4,ka5⟩:=zpa ha
     obtain ⟨bb,oB,cb,rfl,kb1,kb2,kb3,kb4,kb5⟩:=zpa hb
     have RA:=y23h ka5
     have RB:=y23h kb5
     clear ha hb ka5 kb5
     have bel:=HI.out.bel
     have za:=Nat.lt_of_lt_of_le ka3 bel.size
     have zb:=Nat.lt_of_lt_of_le kb3 bel.size
     have KA:=y23h (ka4.later ka3 bel)
     have KB:=y23h (kb4.later kb3 bel)
     clear bel ka4 kb4
     go_upto_region 3 with fail
     go_cut [6,7] (fun s6 s7 wx=>∃ bx bz,s6=.pointer (some ⟨bx,0,none⟩)∧s7=.pointer (some ⟨bz,0,none⟩)∧wr.heap.size≤bx∧bx ≠ bz∧Hid (Own wx bx (iA x) 58∧Own wx bz (iA y) 58∧Below wr.heap.size wr wx))
     case first =>
       go_region_held3 (fun w'=>At8 w' ba oA x∧At8 w' bb oB y) (first | with_reducible exact ⟨KA.out,KB.out⟩ | (refine ⟨At8.later KA.out za ?_,At8.later KB.out zb ?_⟩ <;> (repeat (first | exact Below.refl _ _ | refine Below.drew ?_ | refine Below.alloc ?_ (by simp) _ | refine Below.setCell ?_ (by simp) _)))) (fail)
       all_goals (go_wp2_with fail)
       all_goals go_meet
       · exact ⟨_,_,rfl,rfl,Nat.le_refl _,by omega,((Own.new wr (iA x) 58).alloc _).drew,(Own.newAt (wr.alloc (.cells (iA x) 58)) (iA y) 58 (by simp)).drew,(((Below.refl _ _).alloc (Nat.le_refl _) _).alloc (by simp) _).drew⟩
       · exact ⟨_,_,rfl,rfl,by omega,by omega,(Own.newAt (wr.alloc (.cells (iA y) 58)) (iA x) 58 (by simp)).drew,((Own.new wr (iA y) 58).alloc _).drew,(((Below.refl _ _).alloc (Nat.le_refl _) _).alloc (by simp) _).drew⟩
     case rest =>
       clear KA KB
       obtain ⟨bx,bz,rfl,rfl,KX,KN,HC⟩:=hcut
       generalize wc=wq at *
       have OX:=y23h HC.out.1
       have OY:=y23h HC.out.2.1
       have BW:=y23h HC.out.2.2
       have HNE:=y23h KN
       have lX:=OX.out.cell
       have zX:=OX.out.lt
       have lY:=OY.out.cell
       have zY:=OY.out.lt
       have fX:=OX.out.free
       have gA:(1:Int)≤((la.length + 1:Nat):Int):=by omega
       have gB:(1:Int)≤((lb.length + 1:Nat):Int):=by omega
       clear HC KN
       rcases zdy x.id y.id with h | h | h
       · have C:=y23h (show cmpS x.id y.id=-1 by unfold cmpS;rw [if_pos h])
         have EQ:=y23h (show mrgI behT (x :: la) (y :: lb)=x :: mrgI behT la (y :: lb) by rw [zep,if_pos h])
         clear h
         go_upto_region 11 with (go_at_call 135;refine (CS _ _ _).out.mono ?_;rintro e w5 ⟨rfl,rfl⟩;rw [C.out])
         all_goals
           have HI2:=y23h (HI.out.own.later BW.out)
           have BEL2:=y23h (HI.out.bel.trans (BW.out.mono HI.out.bel.size))
           have OQ:=y23h (HI2.out.alloc (.cells (iA x) 58))
           have BQ:=y23h (BEL2.out.alloc BEL2.out.size (.cells (iA x) 58))
           have HAP:=y23h (fun ty=>zbn ty OQ.out (zfp wq x 58 OKx.out) (by have:=HI.out.len;simp only [List.length_cons,List.length_nil] at *;omega) BQ.out.size)
           go_wp2_with (at_builtin;obtain ⟨v1,w1,hrun,hown,hgr⟩:=HAP.out _;refine Lib.wpList_append_run _ rfl _ _ _ _ rfl _ _ rfl rfl _ _ hrun ?_)
           have HB2:=y23h (zbh OQ.out BQ.out (Nat.le_refl _) hgr BQ.out.size)
           go_roundw
           case rel=>exact ⟨la,y :: lb,D ++ [x],by exact zes RA.out rfl,RB.out,y23h (ze7 HI.out hown HB2.out EQ.out (by simp only [List.length_cons];omega))⟩
           case measure=>simp [lenV]
       · have C:=y23h (show cmpS x.id y.id=0 by unfold cmpS;rw [h,zbl];rfl)
         have hm2:mrgI behT (x :: la) (y :: lb)=(if behT y x=true then y else x) :: mrgI behT la lb:=by rw [zep,h,zbl];simp
         cases hbh:behT y x
         · have EQ:=y23h (show mrgI behT (x :: la) (y :: lb)=x :: mrgI behT la lb by rw [hm2,hbh];rfl)
           have g9:decide (0 < cmpT y x)=false:=by rw [zql];exact hbh
           clear h hm2 hbh
           go_upto_region 11 with (first | (go_at_call 135;refine (CS _ _ _).out.mono ?_;rintro e w5 ⟨rfl,rfl⟩;rw [C.out]) | (go_at_call 62;refine (CT _ _ _).out.mono ?_;rintro e w6 ⟨rfl,hb6⟩;replace OX:=y23h (OX.out.later hb6);replace OY:=y23h (OY.out.later hb6);replace BW:=y23h (BW.out.trans (hb6.mono BW.out.size));have l6:=OX.out.cell;have z6:=OX.out.lt;clear hb6))
           all_goals
             have HI2:=y23h (HI.out.own.later BW.out)
             have BEL2:=y23h (HI.out.bel.trans (BW.out.mono HI.out.bel.size))
             have OQ:=y23h (HI2.out.alloc (.cells (iA x) 58))
             have BQ:=y23h (BEL2.out.alloc BEL2.out.size (.cells (iA x) 58))
             have HAP:=y23h (fun ty=>zbn ty OQ.out (zfp w6 x 58 OKx.out) (by have:=HI.out.len;simp only [List.length_cons,List.length_nil] at *;omega) BQ.out.size)
             go_wp2_with (at_builtin;obtain ⟨v1,w1,hrun,hown,hgr⟩:=HAP.out _;refine Lib.wpList_append_run _ rfl _ _ _ _ rfl _ _ rfl rfl _ _ hrun ?_)
             have HB2:=y23h (zbh OQ.out BQ.out (Nat.le_refl _) hgr BQ.out.size)
             go_roundw
             case rel=>exact ⟨la,lb,D ++ [x],by exact zes RA.out rfl,by exact zes RB.out rfl,y23h (ze7 HI.out hown HB2.out EQ.out (by simp only [List.length_cons];omega))⟩
             case measure=>simp [lenV];omega
         · have EQ:=y23h (show mrgI behT (x :: la) (y :: lb)=y :: mrgI behT la lb by rw [hm2,hbh];rfl)
           have g9:decide (0 < cmpT y x)=true:=by rw [zql];exact hbh
           clear h hm2 hbh
           go_upto_region 11 with (first | (go_at_call 135;refine (CS _ _ _).out.mono ?_;rintro e w5 ⟨rfl,rfl⟩;rw [C.out]) | (go_at_call 62;refine (CT _ _ _).out.mono ?_;rintro e w6 ⟨rfl,hb6⟩;replace OX:=y23h (OX.out.later hb6);replace OY:=y23h (OY.out.later hb6);replace BW:=y23h (BW.out.trans (hb6.mono BW.out.size));have l6:=OX.out.cell;have z6:=OX.out.lt;have f6:=OX.out.free;have l7:=OY.out.cell;have z7:=OY.out.lt;clear hb6))
           all_goals
             have key:=And.intro (zbr OX.out (.string y.id) (.int .i64 y.r) (.int .i64 y.c) (.int .i64 y.st) (.string y.kd) (.int .i64 y.num) (.complex .f64 y.x y.y) (.bool y.d)) (za5 (b:=bx) BW.out KX (.string y.id) (.int .i64 y.r) (.int .i64 y.c) (.int .i64 y.st) (.string y.kd) (.int .i64 y.num) (.complex .f64 y.x y.y) (.bool y.d))
             unfold st8 at key
             revert key
             generalize World.setCell (World.setCell (World.setCell (World.setCell (World.setCell (World.setCell (World.setCell (World.setCell _ _ _) _ _) _ _) _ _) _ _) _ _) _ _) _ _=WW
             rintro ⟨OX3,bw3⟩
             have HI2:=y23h (HI.out.own.later bw3)
             have BEL2:=y23h (HI.out.bel.trans (bw3.mono HI.out.bel.size))
             have l3:=OX3.cell
             have z3:=OX3.lt
             clear bw3 OX3
             have OQ:=y23h (HI2.out.alloc (.cells (iA y) 58))
             have BQ:=y23h (BEL2.out.alloc BEL2.out.size (.cells (iA y) 58))
             have HAP:=y23h (fun ty=>zbn ty OQ.out (zfp WW y 58 OKy.out) (by have:=HI.out.len;simp only [List.length_cons,List.length_nil] at *;omega) BQ.out.size)
             go_wp2_with (at_builtin;obtain ⟨v1,w1,hrun,hown,hgr⟩:=HAP.out _;refine Lib.wpList_append_run _ rfl _ _ _ _ rfl _ _ rfl rfl _ _ hrun ?_)
             have HB2:=y23h (zbh OQ.out BQ.out (Nat.le_refl _) hgr BQ.out.size)
             go_roundw
             case rel=>exact ⟨la,lb,D ++ [y],by exact zes RA.out rfl,by exact zes RB.out rfl,y23h (ze7 HI.out hown HB2.out EQ.out (by simp only [List.length_cons];omega))⟩
             case measure=>simp [lenV];omega
       · have C:=y23h (show cmpS x.id y.id=1 by unfold cmpS;rw [zeb h,h];rfl)
         have EQ:=y23h (show mrgI behT (x :: la) (y :: lb)=y :: mrgI behT (x :: la) lb by rw [zep,zeb h,h];simp)
         clear h
         go_upto_region 11 with (go_at_call 135;refine (CS _ _ _).out.mono ?_;rintro e w5 ⟨rfl,rfl⟩;rw [C.out])
         all_goals
           have key:=And.intro (zbr OX.out (.string y.id) (.int .i64 y.r) (.int .i64 y.c) (.int .i64 y.st) (.string y.kd) (.int .i64 y.num) (.complex .f64 y.x y.y) (.bool y.d)) (za5 (b:=bx) BW.out KX (.string y.id) (.int .i64 y.r) (.int .i64 y.c) (.int .i64 y.st) (.string y.kd) (.int .i64 y.num) (.complex .f64 y.x y.y) (.bool y.d))
           unfold st8 at key
           revert key
           generalize World.setCell (World.setCell (World.setCell (World.setCell (World.setCell (World.setCell (World.setCell (World.setCell _ _ _) _ _) _ _) _ _) _ _) _ _) _ _) _ _=WW
           rintro ⟨OX3,bw3⟩
           have HI2:=y23h (HI.out.own.later bw3)
           have BEL2:=y23h (HI.out.bel.trans (bw3.mono HI.out.bel.size))
           have l3:=OX3.cell
           have z3:=OX3.lt
           clear bw3 OX3
           have OQ:=y23h (HI2.out.alloc (.cells (iA y) 58))
           have BQ:=y23h (BEL2.out.alloc BEL2.out.size (.cells (iA y) 58))
           have HAP:=y23h (fun ty=>zbn ty OQ.out (zfp WW y 58 OKy.out) (by have:=HI.out.len;simp only [List.length_cons,List.length_nil] at *;omega) BQ.out.size)
           go_wp2_with (at_builtin;obtain ⟨v1,w1,hrun,hown,hgr⟩:=HAP.out _;refine Lib.wpList_append_run _ rfl _ _ _ _ rfl _ _ rfl rfl _ _ hrun ?_)
           have HB2:=y23h (zbh OQ.out BQ.out (Nat.le_refl _) hgr BQ.out.size)
           go_roundw
           case rel=>exact ⟨x :: la,lb,D ++ [y],RA.out,by exact zes RB.out rfl,y23h (ze7 HI.out hown HB2.out EQ.out (by simp only [List.length_cons];omega))⟩
           case measure=>simp [lenV]
end Go.Proofs.YtodfhabkdaiopaaGreat
