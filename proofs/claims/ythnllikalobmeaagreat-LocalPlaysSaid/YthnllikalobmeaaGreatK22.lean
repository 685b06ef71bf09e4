/- Joined: HasC, LConc, LPut, RefSame. -/
import Derived.Test.YthnllikalobmeaaGreatK21
import Derived.Test.YthnllikalobmeaaGreatK17
import Derived.Shelf.Spec.SlicesGrow
import Derived.Lib.AppendZeros
import Derived.Test.YthnllikalobmeaaGreatK12
import Derived.Deep.RegionLaw
import Derived.Deep.RegionHeld3
namespace Go.Proofs.YthnllikalobmeaaGreat
set_option linter.unusedVariables false
set_option linter.unusedSimpArgs false
set_option maxRecDepth 100000
set_option maxHeartbeats 8000000
open Go.RowKit
theorem y22h {p:Prop} (h:p):Hid p:=Lib.hid h
theorem zx5 (i:It) (l:List Pr):Pr.hasAll i l = !(l.any fun k=>k.hasB i == false):=by
 induction l with
 | nil=>simp [Pr.hasAll]
 | cons a l ih=>simp only [Pr.hasAll,ih,List.any_cons,Bool.not_or];cases Pr.hasB i a <;> simp
theorem zx6 (i:It) (l:List Pr):Pr.hasAny i l = l.any fun k=>k.hasB i == true:=by
 induction l with
 | nil=>simp [Pr.hasAny]
 | cons a l ih=>simp only [Pr.hasAny,ih,List.any_cons];cases Pr.hasB i a <;> simp
theorem ztr (i:It) (r c st:Int) (d:Bool) (hid:i.id.size ≤ maxLen) (p:Pr):zji i r c st d p:=by
 induction p using Pr.ind with
 | h op t n x y kids ih =>
   intro v w hL
   obtain ⟨oa,cap,b,o,V,rfl,ht,hl,hc,hn,hcell,hrec⟩:=za8 hL
   have LK0:=zt2 hL
   simp only [Pr.kids_node,Pr.text_node,Pr.op_node,Pr.n_node,Pr.x_node,Pr.y_node] at *
   unfold maxLen at hc
   have SM:=fun b w' h=>y22h (zsi i r c st d b kids ih oa cap w' h)
   have LL:=fun a a'=>y22h ((LK0.atAlloc a).atAlloc a')
   have HC:=y22h hcell
   have HR:=y22h hrec
   have HN:=y22h hn
   have HI:=y22h ih
   have HT:=y22h ht
   have HID:=y22h hid
   clear hL LK0 hcell hrec hn ih ht hid
   have HAll:=y22h (zx5 i kids)
   have HAny:=y22h (zx6 i kids)
   generalize hlen:kids.length = len at *
   have HLEN:=y22h hlen
   clear hlen
   generalize hres:Pr.hasB i (.node op t n x y kids) = res
   have HRES:=y22h hres
   clear hres
   have BE:=fun (a a':Obj)=>y22h (((Below.refl w.heap.size w).alloc (Nat.le_refl _) a).alloc (by simp) a')
   have hop:op = 1 ∨ op = 3 ∨ op = 4 ∨ op = 5 ∨ op = 6 ∨ op = 7 ∨ op = 8 ∨ op = 9 ∨ op = 10 ∨ (op ≠ 1 ∧ op ≠ 3 ∧ op ≠ 4 ∧ op ≠ 5 ∧ op ≠ 6 ∧ op ≠ 7 ∧ op ≠ 8 ∧ op ≠ 9 ∧ op ≠ 10):=by omega
   rcases hop with rfl | rfl | rfl | rfl | rfl | rfl | rfl | rfl | rfl | ⟨n1,n3,n4,n5,n6,n7,n8,n9,n10⟩
   · have E:=y22h (show res = true by rw [← HRES.out];simp [Pr.hasB])
     go_enter Tryz.func30,Tryz.ntmps30
     go_wp2_with fail
     go_ret
     exact ⟨zaa E.out.symm,(BE _ _).out⟩
   · have E:=y22h (show res = decide (i.kd.toList = t.toList) by rw [← HRES.out];simp [Pr.hasB])
     go_enter Tryz.func30,Tryz.ntmps30
     go_wp2_with fail
     all_goals
       go_ret
       exact ⟨zaa (by rw [E.out];first | done | (rw [Bool.eq_iff_iff];simp;done) | (simp_all;done)),(BE _ _).out⟩
   · have E:=y22h (show res = begB i.id t by rw [← HRES.out];simp [Pr.hasB])
     have C:=fun w=>y22h (zor i.id t w HID.out HT.out)
     go_enter Tryz.func30,Tryz.ntmps30
     go_wp2_with (go_at_call 64;refine (C _).out.mono ?_;rintro e w' ⟨rfl,rfl⟩)
     go_ret
     exact ⟨zaa E.out.symm,(BE _ _).out⟩
   · have E:=y22h (show res = decide (i.num < n) by rw [← HRES.out];simp [Pr.hasB])
     go_enter Tryz.func30,Tryz.ntmps30
     go_wp2_with fail
     all_goals
       go_ret
       exact ⟨zaa (by rw [E.out];first | done | (rw [Bool.eq_iff_iff];simp;done) | (simp_all;done)),(BE _ _).out⟩
   · have E:=y22h (show res = decide (n ≤ i.num) by rw [← HRES.out];simp [Pr.hasB])
     go_enter Tryz.func30,Tryz.ntmps30
     go_wp2_with fail
     all_goals
       go_ret
       exact ⟨zaa (by rw [E.out];first | done | (rw [Bool.eq_iff_iff];simp;done) | (simp_all;done)),(BE _ _).out⟩
   · have E:=y22h (show res = zif i.ax i.ay x y n by rw [← HRES.out];simp [Pr.hasB])
     have C:=fun w=>y22h (zr3 i.ax i.ay x y n w)
     generalize zif i.ax i.ay x y n = fv at *
     go_enter Tryz.func30,Tryz.ntmps30
     go_wp2_with (go_at_call 65;refine (C _).out.mono ?_;rintro e w' ⟨rfl,rfl⟩)
     go_ret
     exact ⟨zaa E.out.symm,(BE _ _).out⟩
   · have E:=y22h (show res = !(kids.any fun k=>k.hasB i == false) by rw [← HRES.out,← HAll.out];simp [Pr.hasB])
     go_enter Tryz.func30,Tryz.ntmps30
     go_wp2_with (go_at_call 66;refine (SM _ _ (LL _ _).out).out.mono ?_;rintro e w' ⟨rfl,hb⟩)
     go_ret
     exact ⟨zaa (by rw [E.out];simp),zaj (zaj hb)⟩
   · have E:=y22h (show res = (kids.any fun k=>k.hasB i == true) by rw [← HRES.out,← HAny.out];simp [Pr.hasB])
     go_enter Tryz.func30,Tryz.ntmps30
     go_wp2_with (go_at_call 66;refine (SM _ _ (LL _ _).out).out.mono ?_;rintro e w' ⟨rfl,hb⟩)
     go_ret
     exact ⟨zaa (by rw [E.out];simp),zaj (zaj hb)⟩
   · by_cases h0:len = 0
     · subst h0
       have E:=y22h (show res = false by rw [← HRES.out,List.length_eq_zero_iff.1 HLEN.out];simp [Pr.hasB,Pr.hasNot])
       have G1:=y22h ((Has.new w #[.int .i64 10,.string t,.int .i64 n,.complex .f64 x y,.slice oa 0 cap] 40).alloc (.cells (itC i r c st d) 69))
       have G2:=y22h ((Own.newAt (w.alloc (.cells #[.int .i64 10,.string t,.int .i64 n,.complex .f64 x y,.slice oa 0 cap] 40)) (itC i r c st d) 69 (b:=w.heap.size + 1) (by simp)).has)
       have LA:=fun dd os o=>G1.out.regrown dd os o
       have LB:=fun dd os o=>G2.out.regrown dd os o
       have l1:=G1.out.cell
       go_enter Tryz.func30,Tryz.ntmps30
       go_wp2_with fail
       refine wp_region_quiet_below (by kernel_rfl) (by kernel_rfl) ?_
       repeat (first | go_big_quiet_step (fail) | quiet_step (fail))
       refine wpQuiet_nil ?_
       intro w7 hw'
       have hb':=y22h (zac hw')
       clear hw'
       go_wp2_with fail
       go_ret
       exact ⟨zaa E.out.symm,zaj (zaj hb'.out)⟩
     · obtain ⟨q,hq⟩:∃ q,kids[0]? = some q:=⟨_,List.getElem?_eq_getElem (by rw [HLEN.out];omega)⟩
       obtain ⟨rfl,hB⟩:=HN.out (by omega)
       obtain ⟨oq,cq,hV⟩:=zal (HR.out 0 q hq)
       have hbw:Below w.heap.size w ((w.alloc (.cells #[.int .i64 10,.string t,.int .i64 n,.complex .f64 x y,.slice (some ⟨b,o,none⟩) len cap] 40)).alloc (.cells (itC i r c st d) 69)):=(BE _ _).out
       obtain ⟨c0,c1,c2,c3,c4⟩:=zcc (w:=((w.alloc (.cells #[.int .i64 10,.string t,.int .i64 n,.complex .f64 x y,.slice (some ⟨b,o,none⟩) len cap] 40)).alloc (.cells (itC i r c st d) 69))) (fun j u hu=>(hbw.cell (p:=⟨b,o + 0 * 5 + j,none⟩) hB).trans (HC.out 0 q hq j u hu))
       have L0:=(HR.out 0 q hq).later hbw (Nat.le_refl _)
       rw [hV] at c4 L0
       have CC:=fun dd os=>HI.out q (List.mem_of_getElem? hq) (.slice oq q.kids.length cq) (Sort.grow (redrawn ((w.alloc (.cells #[.int .i64 10,.string t,.int .i64 n,.complex .f64 x y,.slice (some ⟨b,o,none⟩) len cap] 40)).alloc (.cells (itC i r c st d) 69)) dd) os) (L0.later (below_regrown _ _ _) (Nat.le_refl _))
       have r0:=fun dd os=>cell_regrown c0 dd os
       have r1:=fun dd os=>cell_regrown c1 dd os
       have r2:=fun dd os=>cell_regrown c2 dd os
       have r3:=fun dd os=>cell_regrown c3 dd os
       have r4:=fun dd os=>cell_regrown c4 dd os
       have G1:=y22h ((Has.new w #[.int .i64 10,.string t,.int .i64 n,.complex .f64 x y,.slice (some ⟨b,o,none⟩) len cap] 40).alloc (.cells (itC i r c st d) 69))
       have G2:=y22h ((Own.newAt (w.alloc (.cells #[.int .i64 10,.string t,.int .i64 n,.complex .f64 x y,.slice (some ⟨b,o,none⟩) len cap] 40)) (itC i r c st d) 69 (b:=w.heap.size + 1) (by simp)).has)
       have LA:=fun dd os o=>G1.out.regrown dd os o
       have LB:=fun dd os o=>G2.out.regrown dd os o
       have l1:=G1.out.cell
       have E:=y22h (show res = !(Pr.hasB i q) by
         rw [← HRES.out]
         match kids,hq with
         | a :: l,hq=>simp at hq;subst hq;simp [Pr.hasB,Pr.hasNot])
       have m3:=fun dd os=>y22h (Calls.regrown_of (CC dd os))
       have hk0:(0:Int) < (len:Int):=by omega
       have hk1:0 < len:=by omega
       have hk2:decide (0 < len) = true:=by simp;omega
       have hk3:decide ((0:Int) < (len:Int)) = true:=by simp;omega
       generalize Pr.hasB i q = rq at *
       clear hV L0 hq CC hbw
       simp only [Nat.zero_mul,Nat.add_zero] at r0 r1 r2 r3 r4
       go_enter Tryz.func30,Tryz.ntmps30
       go_wp2_with fail
       refine wp_region_quiet_below (by kernel_rfl) (by kernel_rfl) ?_
       repeat (first | go_big_quiet_step ((with_reducible exact (m3 _ _).out)) | quiet_step (with_reducible exact (m3 _ _).out))
       refine wpQuiet_nil ?_
       intro w7 hw'
       have hb':=y22h (zac hw')
       clear hw' m3 r0 r1 r2 r3 r4 LA LB
       go_wp2_with fail
       go_ret
       exact ⟨zaa E.out.symm,zaj (zaj hb'.out)⟩
   · have E:=y22h (show res = false by rw [← HRES.out];simp [Pr.hasB,n1,n3,n4,n5,n6,n7,n8,n9,n10])
     go_enter Tryz.func30,Tryz.ntmps30
     go_wp2_with fail
     go_ret
     exact ⟨zaa E.out.symm,(BE _ _).out⟩
def growI_ren:Go.Shelf.Ren:=⟨fun | 4=>173 | n=>n,
 fun | 22=>41 | 25=>69 | 3=>3 | 4=>4 | 9=>9 | 20=>20 | 0=>0 | n=>n,
 fun | n=>n⟩
theorem zxp:Go.Proofs.Lays8.n4 Tryz.prog growI_ren:={
 mixed:=by kernel_rfl,
 f4:=⟨Tryz.f173.name,by decide,Tryz.func173.trans (congrArg some (by kernel_rfl))⟩,
 t0:=Tryz.underlying0,
 a0:=Tryz.isAgg0,
 z0:=Tryz.sizeOf0,
 v0:=Tryz.zeroValue0,
 t3:=Tryz.underlying3,
 a3:=Tryz.isAgg3,
 z3:=Tryz.sizeOf3,
 v3:=Tryz.zeroValue3,
 t4:=Tryz.underlying4,
 a4:=Tryz.isAgg4,
 z4:=Tryz.sizeOf4,
 v4:=Tryz.zeroValue4,
 t9:=Tryz.underlying9,
 a9:=Tryz.isAgg9,
 z9:=Tryz.sizeOf9,
 v9:=Tryz.zeroValue9,
 t20:=Tryz.underlying20,
 a20:=Tryz.isAgg20,
 z20:=Tryz.sizeOf20,
 v20:=Tryz.zeroValue20,
 t22:=Tryz.underlying41,
 a22:=Tryz.isAgg41,
 z22:=Tryz.sizeOf41,
 v22:=Tryz.zeroValue41 }
theorem zpq (n:Nat) (hn:n ≤ 20000) (w:World) :
   Calls Tryz.prog 173 #[.slice none 0 0,.int .i64 n] w fun e w'=>∃ v,e = .returned v ∧ OwnI w' w.heap.size [] v ∧ Below w.heap.size w w':=by
 obtain ⟨j0,hj,hy0,hy1,hy2⟩:=info_parts zce
 by_cases h0:n = 0
 · subst h0
   refine (Any8.slices_Grow_room zxp none 0 0 0 w (by omega) (by omega) (by omega) (by omega)).mono ?_
   rintro e w' ⟨rfl,rfl⟩
   exact ⟨_,rfl,OwnI.nil _ _,Below.refl _ _⟩
 · refine (Any8.slices_Grow_grow zxp j0 _ hj hy0 (by rw [hy1];omega) none 0 0 n [] w (by omega) (by omega) (by rw [hy2];omega) (by omega) (by simp) (fun _=>rfl) (fun a h=>by cases h)).mono ?_
   rintro e w' ⟨rfl,rfl⟩
   have hge:=grownCap_ge w (0 + n) 0 (growI_ren.t 25)
   have hle:=grownCap_le_maxLen w (0 + n) 0 (growI_ren.t 25) (by unfold maxLen;omega)
   refine ⟨_,rfl,⟨by simp [zat],.inr ⟨w.heap.size,_,_,rfl,Nat.le_refl _,heap_alloc_new w.drew _,by simp,hle,?_,by simp [zat]⟩⟩,(Below.refl _ _).drew.alloc (Nat.le_refl _) _⟩
   simp only [Array.size_append,List.size_toArray,size_zeroCells,List.length_nil,Nat.zero_add,Nat.sub_zero]
   rw [← Nat.add_mul]
   rw [show (Value.cells (.agg #[.string ⟨#[]⟩,.int .i64 0,.int .i64 0,.int .i64 0,.string ⟨#[]⟩,.int .i64 0,.complex .f64 0 0,.bool false])).size = 8 from rfl]
   congr 1
   simp only [Nat.zero_add] at hge
   omega
theorem zsm (a:Addr) (w:World):(storeCells a []).run Tryz.prog w = .ok () w:=by simp [storeCells]
theorem zjf (ty:TypeId) (base oa:Option Addr) (n cap c:Nat) (hn:n ≤ cap) (w:World) :
   (Builtin.append_ #[41,41] ty #[.slice base n cap,.slice oa 0 c]).run Tryz.prog w = .ok (.slice base n cap) w:=by
 obtain ⟨j0,hj,hy0,hy1,hy2⟩:=info_parts zce
 have hf:(Builtin.firstCells j0.size 0 (.slice oa 0 c)).run Tryz.prog w = .ok #[] w:=by
   cases oa with
   | none=>exact run_firstCells_none w _ _ _ _
   | some a=>exact run_firstCells_some w j0.size 0 a 0 c [] (by simp) (fun j v h=>by simp at h)
 cases base with
 | none=>simp [Builtin.append_,run_underlying Tryz.underlying41,sizeOf,typeInfo,hj,Builtin.lenOf,hn,hf,Result.andThen]
 | some a=>simp [Builtin.append_,run_underlying Tryz.underlying41,sizeOf,typeInfo,hj,Builtin.lenOf,hn,hf,zsm,Result.andThen]
theorem ziq (l:List Itm):∀ u ∈ zat l,u.oneCell' = true:=by
 intro u hu
 unfold zat at hu
 obtain ⟨i,_,hi⟩:=List.mem_flatMap.1 hu
 exact zc7 i u hi
theorem zbg (ty:TypeId) {w:World} {base:Nat} {v sv:Value} {l m:List Itm} (hown:OwnI w base l v) (hM:Row 8 ic w m sv) (hn:l.length + m.length ≤ 30000) (hbase:base ≤ w.heap.size) :
   ∃ v' w',(Builtin.append_ #[41,41] ty #[v,sv]).run Tryz.prog w = .ok v' w' ∧ OwnI w' base (l ++ m) v' ∧ w.grownBy w' v.ownBlock:=by
 obtain ⟨oa,cap,b,o,rfl,h⟩:=hM
 obtain ⟨j0,hj,hy0,hy1,hy2⟩:=info_parts zce
 by_cases h0:m.length = 0
 · have e:m = []:=List.length_eq_zero_iff.1 h0
   subst e
   obtain ⟨ov,cv,gv,e,h1,_⟩:=zan hown
   subst e
   refine ⟨_,w,zjf ty ov oa l.length cv cap h1 w,?_,⟨rfl,rfl,rfl,Nat.le_refl _,fun _ _ _=>rfl⟩⟩
   rw [List.append_nil];exact hown
 · obtain ⟨rfl,hb⟩:=h.at0 (by omega)
   obtain ⟨v',w',r1,r2,r3,_⟩:=run_append_own w base 41 ty 69 j0 _ 8 88 Tryz.underlying41 hj hy0 hy1 hy2 rfl (by omega) v l.length (zat l) hown ⟨b,o,none⟩ m.length cap (zat m) (zc4 m) (zh2 h rfl) (ziq m) (by unfold maxLen;omega) (by omega) hbase
   refine ⟨v',w',r1,?_,r3⟩
   unfold OwnI
   rw [zgy,List.length_append]
   exact r2
structure SrcI (N:Nat) (w:World) (L:Nat → List Itm) (V:Nat → Value) (bs:Nat):Prop where
 lt:bs < w.heap.size
 cell:∀ k,k < N → w.cell? ⟨bs,k,none⟩ = some (V k)
 lies:∀ k,k < N → Row 8 ic w (L k) (V k)
 len:∀ k,k < N → (L k).length ≤ 2000
def catI (L:Nat → List Itm):Nat → List Itm
 | 0=>[]
 | k + 1=>catI L k ++ L k
theorem SrcI.tot {N:Nat} {w:World} {L:Nat → List Itm} {V:Nat → Value} {bs:Nat} (h:SrcI N w L V bs):∀ k,k ≤ N → (catI L k).length ≤ 2000 * k:=by
 intro k
 induction k with
 | zero=>intro _;simp [catI]
 | succ k ih =>
   intro hk
   have h1:=ih (by omega)
   have h2:=h.len k (by omega)
   simp only [catI,List.length_append];omega
def SumI (N:Nat) (L:Nat → List Itm) (w0:World) (s i:Value) (wr:World):Prop:=∃ k:Nat,k ≤ N ∧ i = .int .i64 k ∧ s = .int .i64 (catI L k).length ∧ Hid (w0 = wr)
def CatR (N:Nat) (L:Nat → List Itm) (w0:World) (v i:Value) (wr:World):Prop :=
 ∃ k:Nat,k ≤ N ∧ i = .int .i64 k ∧ Hid (OwnI wr w0.heap.size (catI L k) v) ∧ Hid (Below w0.heap.size w0 wr)
theorem zhm (N:Nat) (hN:N ≤ 5) (L:Nat → List Itm) (V:Nat → Value) (bs:Nat) (w:World) (hS:SrcI N w L V bs) :
   Calls Tryz.prog 154 #[.slice (some ⟨bs,0,none⟩) N N] w fun e w'=>∃ v,e = .returned v ∧ OwnI w' w.heap.size (catI L N) v ∧ Below w.heap.size w w':=by
 have HS:=y22h hS
 have G:=fun w'=>y22h (zpq (catI L N).length (by have:=HS.out.tot N (Nat.le_refl _);omega) w')
 clear hS
 go_enter Tryz.func154,Tryz.ntmps154
 go_wp2_with fail
 go_loopw [3,11] (fun s i wr=>SumI N L w s i wr) (fun _ i _=>N - (intOf i).toNat)
 case atStart=>exact ⟨0,by omega,rfl,rfl,rfl⟩
 case round =>
   obtain ⟨k,hk,rfl,rfl,hw⟩:=hrel
   have ew:=hw.out
   subst ew
   clear hw
   by_cases hlt:k < N
   · obtain ⟨oa,cap,hV⟩:=(HS.out.lies k hlt).val
     have cv:=HS.out.cell k hlt
     rw [hV] at cv
     have zb:=HS.out.lt
     have t1:=HS.out.tot k hk
     have t2:=HS.out.len k hlt
     have t3:(catI L (k + 1)).length = (catI L k).length + (L k).length:=by simp [catI]
     have k0:(0:Int) ≤ (k:Int):=by omega
     have k1:(k:Int) < (N:Int):=by omega
     have HT:=y22h t3
     clear t3 hV
     generalize (L k).length = m at *
     generalize ht:(catI L k).length = t at *
     have hneg:decide (((t:Int) + (m:Int)) < 0) = false:=decide_eq_false (by omega)
     go_wp2_with fail
     go_roundw
     case rel=>exact ⟨k + 1,by omega,by go_num,by rw [HT.out];go_num,rfl⟩
     case measure=>simp [intOf];omega
   · have e:k = N:=by omega
     subst e
     go_wp2_with (go_at_call 173;refine (G _).out.mono ?_;rintro e w1 ⟨v0,rfl,hr0,hb0⟩)
     have C0:CatR k L w v0 (.int .i64 0) w1:=⟨0,by omega,rfl,hr0,hb0⟩
     clear hr0 hb0
     go_loopw [6,27] (fun v i wr=>CatR k L w v i wr) (fun _ i _=>k - (intOf i).toNat)
     case atStart=>exact C0
     case round =>
       clear C0
       obtain ⟨q,hq,rfl,HR,HB⟩:=hrel
       by_cases hlt:q < k
       · have LR:=(HS.out.lies q hlt).later HB.out
         obtain ⟨oa,cap,hV⟩:=LR.val
         have cv:=(HB.out.cell (p:=⟨bs,q,none⟩) HS.out.lt).trans (HS.out.cell q hlt)
         rw [hV] at cv LR
         have zb:bs < wr.heap.size:=Nat.lt_of_lt_of_le HS.out.lt HB.out.size
         have t1:=HS.out.tot q hq
         have t2:=HS.out.len q hlt
         have k0:(0:Int) ≤ (q:Int):=by omega
         have k1:(q:Int) < (k:Int):=by omega
         have HA:=y22h (fun ty=>zbg ty HR.out LR (by omega) HB.out.size)
         obtain ⟨ov,cvv,hrv⟩:=HR.out.len
         subst hrv
         clear LR hV
         go_wp2_with (at_builtin;obtain ⟨v',w',hrun,hown,hgr⟩:=HA.out _;refine Lib.wpList_append_run _ rfl _ _ _ _ rfl _ _ rfl rfl _ _ hrun ?_)
         have HB2:=y22h (zba HR.out HB.out (Nat.le_refl _) hgr HB.out.size)
         go_roundw
         case rel=>exact ⟨q + 1,by omega,by go_num,hown,HB2⟩
         case measure=>simp [intOf];omega
       · have e:q = k:=by omega
         subst e
         go_wp2_with fail
         go_ret
         exact ⟨_,rfl,HR.out,HB.out⟩
theorem zxu (l:List Itm) (id:ByteArray):toI l id ≤ l.length:=by
 have hk:=zf3 l id
 unfold toI
 cases hh:hitI l id with
 | false=>simpa using hk
 | true =>
   unfold hitI at hh
   cases e:l[posI l id]? with
   | none=>rw [e] at hh;cases hh
   | some i=>have:=zbq e;simp only [if_true];omega
theorem zez (b o n:Nat):(⟨b,o,none⟩:Addr).add n = ⟨b,o + n,none⟩:=by
 unfold Addr.add;split <;> simp_all
theorem Row.slice {w:World} {l:List Itm} {oa:Option Addr} {n cap:Nat} (h:Row 8 ic w l (.slice oa n cap)) (t:Nat) (ht:t ≤ l.length):Row 8 ic w (l.drop t) (.slice (Option.map (fun x=>x.add (t * 8)) oa) (n - t) (cap - t)):=by
 obtain ⟨oa',cap',b,o,e,h⟩:=h
 cases e
 have hc:=h.len
 have hm:=h.max
 refine ⟨_,cap - t,b,o + t * 8,by rw [List.length_drop],by rw [List.length_drop];omega,by omega,fun h0=>?_,fun k i hk j u hu=>?_,fun i hi=>h.ok i (List.mem_of_mem_drop hi)⟩
 · rw [List.length_drop] at h0
   obtain ⟨rfl,hb⟩:=h.at0 (by omega)
   exact ⟨by simp only [Option.map_some,zez],hb⟩
 · rw [List.getElem?_drop] at hk
   have:=h.cell (t + k) i hk j u hu
   rw [show o + t * 8 + k * 8 + j = o + (t + k) * 8 + j by omega]
   exact this
theorem Row.none {w:World} {l:List Itm} {oa:Option Addr} {n cap:Nat} (h:Row 8 ic w l (.slice oa n cap)):Row 8 ic w (l.drop cap) (.slice oa 0 0):=by
 obtain ⟨oa',cap',b,o,e,h⟩:=h
 cases e
 have hc:=h.len
 have e:l.drop cap = []:=List.drop_eq_nil_of_le hc
 rw [e]
 exact ⟨_,0,b,o,rfl,Nat.le_refl _,by decide,fun h0=>by simp at h0,fun k i hk=>by simp at hk,fun i hi=>by simp at hi⟩
theorem Row.upto {w:World} {l:List Itm} {oa:Option Addr} {n cap:Nat} (h:Row 8 ic w l (.slice oa n cap)) (k:Nat) (hk:k ≤ l.length):Row 8 ic w (l.take k) (.slice oa k cap):=by
 have e:=h.take k
 rw [List.length_take,show min k l.length = k by omega] at e
 exact e
theorem zmh (a b:List Itm) (va vb:Value) (bs:Nat) (w:World) (hlt:bs < w.heap.size) (c0:w.cell? ⟨bs,0,none⟩ = some va) (c1:w.cell? ⟨bs,1,none⟩ = some vb) (ha:Row 8 ic w a va) (hb:Row 8 ic w b vb) (la:a.length ≤ 2000) (lb:b.length ≤ 2000) :
   Calls Tryz.prog 154 #[.slice (some ⟨bs,0,none⟩) 2 2] w fun e w'=>∃ v,e = .returned v ∧ OwnI w' w.heap.size (a ++ b) v ∧ Below w.heap.size w w':=by
 have h:=zhm 2 (by omega) (fun k=>if k = 0 then a else b) (fun k=>if k = 0 then va else vb) bs w ⟨hlt,fun k hk=>?_,fun k hk=>?_,fun k hk=>?_⟩
 · simpa [catI] using h
 · obtain rfl | rfl:k = 0 ∨ k = 1:=by omega
   · simpa using c0
   · simpa using c1
 · obtain rfl | rfl:k = 0 ∨ k = 1:=by omega
   · simpa using ha
   · simpa using hb
 · obtain rfl | rfl:k = 0 ∨ k = 1:=by omega
   · simpa using la
   · simpa using lb
theorem zmi (a b c:List Itm) (va vb vc:Value) (bs:Nat) (w:World) (hlt:bs < w.heap.size) (c0:w.cell? ⟨bs,0,none⟩ = some va) (c1:w.cell? ⟨bs,1,none⟩ = some vb) (c2:w.cell? ⟨bs,2,none⟩ = some vc) (ha:Row 8 ic w a va) (hb:Row 8 ic w b vb) (hc:Row 8 ic w c vc) (la:a.length ≤ 2000) (lb:b.length ≤ 2000) (lc:c.length ≤ 2000) :
   Calls Tryz.prog 154 #[.slice (some ⟨bs,0,none⟩) 3 3] w fun e w'=>∃ v,e = .returned v ∧ OwnI w' w.heap.size (a ++ (b ++ c)) v ∧ Below w.heap.size w w':=by
 have h:=zhm 3 (by omega) (fun k=>if k = 0 then a else if k = 1 then b else c) (fun k=>if k = 0 then va else if k = 1 then vb else vc) bs w ⟨hlt,fun k hk=>?_,fun k hk=>?_,fun k hk=>?_⟩
 · simpa [catI] using h
 · obtain rfl | rfl | rfl:k = 0 ∨ k = 1 ∨ k = 2:=by omega
   · simpa using c0
   · simpa using c1
   · simpa using c2
 · obtain rfl | rfl | rfl:k = 0 ∨ k = 1 ∨ k = 2:=by omega
   · simpa using ha
   · simpa using hb
   · simpa using hc
 · obtain rfl | rfl | rfl:k = 0 ∨ k = 1 ∨ k = 2:=by omega
   · simpa using la
   · simpa using lb
   · simpa using lc
theorem zk6 {l m:List Itm} (h:∀ i ∈ l,i.id.size ≤ maxLen ∧ i.kd.size ≤ maxLen) (hs:∀ i ∈ m,i ∈ l):∀ i ∈ m,i.id.size ≤ maxLen ∧ i.kd.size ≤ maxLen:=fun i hi=>h i (hs i hi)
theorem zfi (l:List Itm) (id:ByteArray) (v:Value) (w:World) (hR:Row 8 ic w l v) (hr:zao l) (hl:l.length ≤ 1000) (hid:id.size ≤ maxLen) :
   Calls Tryz.prog 118 #[v,.string id] w fun e w'=>∃ v',e = .returned v' ∧ OwnI w' w.heap.size (l.filter (neB id)) v' ∧ Below w.heap.size w w':=by
 have S:=y22h (zgu l id v w hR hr (by omega))
 have HO:=y22h (zk6 (m:=l.filter (neB id)) hR.oks fun i hi=>(List.mem_filter.1 hi).1)
 have E:=y22h (zrj (id:=id) hr)
 have LR:=y22h hR
 obtain ⟨oa,cap,rfl⟩:=hR.val
 have kx:=hR.cap
 have hk:=zf3 l id
 have ht:=zxu l id
 clear hR hr
 generalize toI l id = t at *
 generalize posI l id = k at *
 have q1:(0:Int) ≤ (k:Int):=by omega
 have q2:(k:Int) ≤ (cap:Int):=by omega
 have q3:(0:Int) ≤ (t:Int):=by omega
 have q4:(t:Int) ≤ (l.length:Int):=by omega
 go_enter Tryz.func118,Tryz.ntmps118
 go_upto_region 2 with (go_at_call 121;refine S.out.mono ?_;rintro e w1 ⟨rfl,hb⟩;replace LR:=y22h (LR.out.later hb))
 have W2:∀ x y:Value,Hid (Row 8 ic w1 (l.take k) x → Row 8 ic w1 (l.drop t) y → Calls Tryz.prog 154 #[.slice (some ⟨w1.heap.size,0,none⟩) 2 2] (w1.alloc (.cells #[x,y] 41)).drew fun e w'=>∃ v,e = .returned v ∧ OwnI w' (w1.heap.size + 1) (l.filter (neB id)) v ∧ Below w1.heap.size w1 w'):=fun x y=>y22h (fun hx hy=>by
   have h:=zmh (l.take k) (l.drop t) x y w1.heap.size (w1.alloc (.cells #[x,y] 41)).drew (by simp) ((Has.new w1 #[x,y] 41).cell 0) ((Has.new w1 #[x,y] 41).cell 1) (hx.alloc _).drew (hy.alloc _).drew (by rw [List.length_take];omega) (by rw [List.length_drop];omega)
   rw [E.out] at h
   refine h.mono ?_
   rintro e w' ⟨v,he,ho,hb⟩
   exact ⟨v,he,by simpa using ho,(((Below.refl _ _).alloc (Nat.le_refl _) _).drew).trans (hb.mono (by simp))⟩)
 refine za2 6 (by kernel_rfl) (by kernel_rfl) ?_
 simp only [List.take_succ_cons,List.take_zero,List.drop_succ_cons,List.drop_zero]
 by_cases hq:cap = t
 · subst hq
   repeat (first | still_step)
   refine wpStill_nil ?_
   go_wp2_with fail
   refine ((W2 _ _).out (LR.out.upto k hk) (LR.out.none)).mono ?_
   rintro e w2 ⟨v,rfl,ho,hb2⟩
   go_wp2_with fail
   go_ret
   exact ⟨_,rfl,ho.mono (by have:=hb.size;omega),hb.trans (hb2.mono hb.size)⟩
 · repeat (first | still_step)
   refine wpStill_nil ?_
   go_wp2_with fail
   refine ((W2 _ _).out (LR.out.upto k hk) (LR.out.slice t ht)).mono ?_
   rintro e w2 ⟨v,rfl,ho,hb2⟩
   go_wp2_with fail
   go_ret
   exact ⟨_,rfl,ho.mono (by have:=hb.size;omega),hb.trans (hb2.mono hb.size)⟩
theorem zf1 (l:List Itm) (x:Itm) (v:Value) (w:World) (hR:Row 8 ic w l v) (hr:zao l) (hl:l.length ≤ 1000) (hx:x.id.size ≤ maxLen ∧ x.kd.size ≤ maxLen) :
   Calls Tryz.prog 119 #[v,iV x] w fun e w'=>∃ v',e = .returned v' ∧ OwnI w' w.heap.size (putI l x) v' ∧ Below w.heap.size w w':=by
 have LR:=y22h (hR.alloc (.cells (iA x) 69))
 have S:=y22h (zgu l x.id v _ LR.out hr (by omega))
 have OX:=y22h (Has.new w (iA x) 69)
 have BEL:=y22h ((Below.refl w.heap.size w).alloc (Nat.le_refl _) (.cells (iA x) 69))
 have E:=y22h (zul (x:=x) hr)
 have HO:=y22h (show ∀ i ∈ putI l x,i.id.size ≤ maxLen ∧ i.kd.size ≤ maxLen from fun i hi=>by
   rcases mem_put.1 hi with e | ⟨e,_⟩
   · rw [e];exact hx
   · exact hR.oks i e)
 obtain ⟨oa,cap,rfl⟩:=hR.val
 have kx:=hR.cap
 have hk:=zf3 l x.id
 have ht:=zxu l x.id
 have HX:=y22h hx
 clear hR hr hx
 generalize toI l x.id = t at *
 generalize posI l x.id = k at *
 have q1:(0:Int) ≤ (k:Int):=by omega
 have q2:(k:Int) ≤ (cap:Int):=by omega
 have q3:(0:Int) ≤ (t:Int):=by omega
 have q4:(t:Int) ≤ (l.length:Int):=by omega
 go_enter Tryz.func119,Tryz.ntmps119
 have l0:=OX.out.cell
 have z0:=OX.out.lt
 go_upto_region 2 with (go_at_call 121;clear l0 z0;refine S.out.mono ?_;rintro e w1 ⟨rfl,hb⟩;replace LR:=y22h (LR.out.later hb);replace OX:=y22h (OX.out.below hb OX.out.lt);replace BEL:=y22h (BEL.out.trans (hb.mono BEL.out.size)))
 have l1:=OX.out.cell
 have z1:=OX.out.lt
 have zb:=BEL.out.size
 have W3:∀ (B:Nat) (va vc:Value),Hid (B = w1.heap.size + 1 → Row 8 ic w1 (l.take k) va → Row 8 ic w1 (l.drop t) vc → Calls Tryz.prog 154 #[.slice (some ⟨B,0,none⟩) 3 3] ((w1.alloc (.cells (iA x) 69)).alloc (.cells #[va,.slice (some ⟨w1.heap.size,0,none⟩) 1 1,vc] 41)).drew fun e w'=>∃ v,e = .returned v ∧ OwnI w' (w1.heap.size + 2) (putI l x) v ∧ Below w1.heap.size w1 w'):=fun B va vc=>y22h (fun hB ha hc=>by
   subst hB
   have o1:=(ze7 w1 x 69 HX.out)
   have hs:=Has.new (w1.alloc (.cells (iA x) 69)) #[va,.slice (some ⟨w1.heap.size,0,none⟩) 1 1,vc] 41
   have h:=zmi (l.take k) [x] (l.drop t) va (.slice (some ⟨w1.heap.size,0,none⟩) 1 1) vc (w1.alloc (.cells (iA x) 69)).heap.size ((w1.alloc (.cells (iA x) 69)).alloc (.cells #[va,.slice (some ⟨w1.heap.size,0,none⟩) 1 1,vc] 41)).drew hs.drew.lt (hs.drew.cell 0) (hs.drew.cell 1) (hs.drew.cell 2) ((ha.alloc _).alloc _).drew (o1.alloc _).drew ((hc.alloc _).alloc _).drew (by rw [List.length_take];omega) (by simp) (by rw [List.length_drop];omega)
   rw [E.out,show (w1.alloc (.cells (iA x) 69)).heap.size = w1.heap.size + 1 by simp] at h
   refine h.mono ?_
   rintro e w' ⟨v,he,ho,hb⟩
   exact ⟨v,he,by simpa using ho,((((Below.refl _ _).alloc (Nat.le_refl _) _).alloc (by simp) _).drew).trans (hb.mono (by simp;omega))⟩)
 by_cases hq:cap = t
 · subst hq
   go_region_held3 (fun w'=>∀ o,w'.cell? ⟨w.heap.size,o,none⟩ = (iA x)[o]?) (first | with_reducible exact OX2.out.cell | with_reducible exact OX.out.cell | with_reducible exact OX.out.drew.cell | with_reducible exact ((OX.out.alloc _).drew).cell | with_reducible exact ((OX.out.alloc _).drew.alloc _).cell | with_reducible exact (((OX.out.alloc _).alloc _).drew).cell) (first
     | (go_simp;go_at_call 154;with_reducible refine ((W3 _ _ _).out rfl (LR.out.upto k hk) LR.out.none).mono ?_;rintro e w2 ⟨v,rfl,ho,hb2⟩;have OX2:=y22h (OX.out.below hb2 OX.out.lt))
     | fail)
   go_wp2_with fail
   go_ret
   exact ⟨_,rfl,ho.mono (by have:=BEL.out.size;omega),BEL.out.trans (hb2.mono BEL.out.size)⟩
 · go_region_held3 (fun w'=>∀ o,w'.cell? ⟨w.heap.size,o,none⟩ = (iA x)[o]?) (first | with_reducible exact OX2.out.cell | with_reducible exact OX.out.cell | with_reducible exact OX.out.drew.cell | with_reducible exact ((OX.out.alloc _).drew).cell | with_reducible exact ((OX.out.alloc _).drew.alloc _).cell | with_reducible exact (((OX.out.alloc _).alloc _).drew).cell) (first
     | (go_simp;go_at_call 154;with_reducible refine ((W3 _ _ _).out rfl (LR.out.upto k hk) (LR.out.slice t ht)).mono ?_;rintro e w2 ⟨v,rfl,ho,hb2⟩;have OX2:=y22h (OX.out.below hb2 OX.out.lt))
     | fail)
   go_wp2_with fail
   go_ret
   exact ⟨_,rfl,ho.mono (by have:=BEL.out.size;omega),BEL.out.trans (hb2.mono BEL.out.size)⟩
def zsu (k:Pr):Prop:=∀ (q:Pr) (v v':Value) (w:World),LP w k v → LP w q v' →
   Calls Tryz.prog 29 #[.agg #[.int .i64 k.op,.string k.text,.int .i64 k.n,.complex .f64 k.x k.y,v],.agg #[.int .i64 q.op,.string q.text,.int .i64 q.n,.complex .f64 q.x q.y,v']] w fun e w'=>e = .returned (.bool (Pr.same k q)) ∧ Below w.heap.size w w'
theorem zpz (p:Pr):zsu p:=by
 induction p using Pr.ind with
 | h op t n x y l ih =>
   intro q v v' w hL hL'
   obtain ⟨op',t',n',x',y',m⟩:=q
   obtain ⟨oa,cap,b,o,V,rfl,_,hl,hc,hn,hcell,hrec⟩:=za8 hL
   obtain ⟨ob,cap',b',o',V',rfl,_,hl',hc',hn',hcell',hrec'⟩:=za8 hL'
   simp only [Pr.kids_node,Pr.text_node,Pr.op_node,Pr.n_node,Pr.x_node,Pr.y_node] at *
   unfold maxLen at hc hc'
   have HC:=y22h hcell
   have HR:=y22h hrec
   have HN:=y22h hn
   have HC':=y22h hcell'
   have HR':=y22h hrec'
   have HN':=y22h hn'
   have HH:=y22h ih
   clear hL hcell hrec hn hL' hcell' hrec' hn' ih
   have f2:Pr.same (.node op t n x y l) (.node op' t' n' x' y' m) = (decide (op = op') && (decide (t.toList = t'.toList) && (decide (n = n') && ((feq x x' && feq y y') && Pr.sames l m)))):=by simp [Pr.same]
   have HLen:=y22h (fun h=>Pr.sames_not_len (l:=l) (m:=m) h)
   rw [f2]
   clear f2
   generalize hs:Pr.sames l m = sm
   have HSM:=y22h hs
   clear hs
   rw [HSM.out] at HLen
   generalize hla:l.length = la at *
   generalize hlb:m.length = lb at *
   have HLA:=y22h hla
   have HLB:=y22h hlb
   clear hla hlb
   by_cases e1:¬ op = op'
   · go_enter Tryz.func29,Tryz.ntmps29
     go_wp2_with fail
     go_ret
     exact ⟨zaa (by simp [e1]),((Below.refl _ _).alloc (Nat.le_refl _) _).alloc (by simp) _⟩
   have e1:=Decidable.not_not.1 e1
   by_cases e2:¬ t.toList = t'.toList
   · subst e1
     go_enter Tryz.func29,Tryz.ntmps29
     go_wp2_with fail
     go_ret
     exact ⟨zaa (by simp [e2]),((Below.refl _ _).alloc (Nat.le_refl _) _).alloc (by simp) _⟩
   have e2:=Decidable.not_not.1 e2
   by_cases e3:¬ n = n'
   · subst e1
     go_enter Tryz.func29,Tryz.ntmps29
     go_wp2_with fail
     go_ret
     exact ⟨zaa (by simp [e3]),((Below.refl _ _).alloc (Nat.le_refl _) _).alloc (by simp) _⟩
   have e3:=Decidable.not_not.1 e3
   subst e1
   subst e3
   by_cases g4:¬ (FloatKind.f64.format.order x x' = some .eq)
   · have e4:feq x x' = false:=by simp [feq,g4]
     rw [e4]
     go_enter Tryz.func29,Tryz.ntmps29
     go_wp2_with fail
     go_ret
     exact ⟨zaa (by simp),((Below.refl _ _).alloc (Nat.le_refl _) _).alloc (by simp) _⟩
   have g4:=Decidable.not_not.1 g4
   have e4:feq x x' = true:=by simp [feq,g4]
   rw [e4]
   by_cases g5:¬ (FloatKind.f64.format.order y y' = some .eq)
   · have e5:feq y y' = false:=by simp [feq,g5]
     rw [e5]
     go_enter Tryz.func29,Tryz.ntmps29
     go_wp2_with fail
     go_ret
     exact ⟨zaa (by simp),((Below.refl _ _).alloc (Nat.le_refl _) _).alloc (by simp) _⟩
   have g5:=Decidable.not_not.1 g5
   have e5:feq y y' = true:=by simp [feq,g5]
   rw [e5]
   by_cases e6:¬ la = lb
   · have hz:=HLen.out e6
     subst hz
     go_enter Tryz.func29,Tryz.ntmps29
     go_wp2_with fail
     go_ret
     exact ⟨zaa (by simp),((Below.refl _ _).alloc (Nat.le_refl _) _).alloc (by simp) _⟩
   have e6:=Decidable.not_not.1 e6
   subst e6
   rw [decide_eq_true rfl,decide_eq_true e2,decide_eq_true rfl,Bool.true_and,Bool.true_and,Bool.true_and,Bool.true_and,Bool.true_and]
   go_enter Tryz.func29,Tryz.ntmps29
   go_wp2_with fail
   go_loopw [5] (fun i wr=>z03 l m la ((w.alloc (.cells #[.int .i64 op,.string t,.int .i64 n,.complex .f64 x y,.slice oa la cap] 40)).alloc (.cells #[.int .i64 op,.string t',.int .i64 n,.complex .f64 x' y',.slice ob la cap'] 40)) i wr) (fun i _=>la - (intOf i).toNat)
   case atStart=>exact ⟨0,Nat.zero_le _,rfl,by simp [Hid,Pr.sames],Below.refl _ _⟩
   case round =>
     obtain ⟨k,hk,rfl,HS,hb⟩:=hrel
     have G1:=y22h (((Has.new w #[.int .i64 op,.string t,.int .i64 n,.complex .f64 x y,.slice oa la cap] 40).alloc (.cells #[.int .i64 op,.string t',.int .i64 n,.complex .f64 x' y',.slice ob la cap'] 40)).below hb (by simp;omega))
     have G2:=y22h ((Own.newAt (w.alloc (.cells #[.int .i64 op,.string t,.int .i64 n,.complex .f64 x y,.slice oa la cap] 40)) #[.int .i64 op,.string t',.int .i64 n,.complex .f64 x' y',.slice ob la cap'] 40 (b:=w.heap.size + 1) (by simp)).has.below hb (by simp))
     by_cases hlt:k < la
     · obtain ⟨p,hp⟩:∃ p,l[k]? = some p:=⟨_,List.getElem?_eq_getElem (by rw [HLA.out];exact hlt)⟩
       obtain ⟨q,hq⟩:∃ q,m[k]? = some q:=⟨_,List.getElem?_eq_getElem (by rw [HLB.out];exact hlt)⟩
       obtain ⟨rfl,hB⟩:=HN.out (by omega)
       obtain ⟨rfl,hB'⟩:=HN'.out (by omega)
       obtain ⟨oq,cq,hV⟩:=zal (HR.out k p hp)
       obtain ⟨oq',cq',hV'⟩:=zal (HR'.out k q hq)
       have hbw:Below w.heap.size w wr:=zaj (zaj hb)
       obtain ⟨c0,c1,c2,c3,c4⟩:=zcc (w:=wr) (fun j u hu=>(hbw.cell (p:=⟨b,o + k * 5 + j,none⟩) hB).trans (HC.out k p hp j u hu))
       obtain ⟨d0,d1,d2,d3,d4⟩:=zcc (w:=wr) (fun j u hu=>(hbw.cell (p:=⟨b',o' + k * 5 + j,none⟩) hB').trans (HC'.out k q hq j u hu))
       have L0:=(HR.out k p hp).later hbw (Nat.le_refl _)
       have M0:=(HR'.out k q hq).later hbw (Nat.le_refl _)
       rw [hV] at c4 L0
       rw [hV'] at d4 M0
       have CC:=fun dd os=>HH.out p (List.mem_of_getElem? hp) q (.slice oq p.kids.length cq) (.slice oq' q.kids.length cq') (Sort.grow (redrawn wr dd) os) (L0.later (below_regrown _ _ _) (Nat.le_refl _)) (M0.later (below_regrown _ _ _) (Nat.le_refl _))
       have HB:=y22h hb
       have HS0:=HS.out
       have r0:=fun dd os=>cell_regrown c0 dd os
       have r1:=fun dd os=>cell_regrown c1 dd os
       have r2:=fun dd os=>cell_regrown c2 dd os
       have r3:=fun dd os=>cell_regrown c3 dd os
       have r4:=fun dd os=>cell_regrown c4 dd os
       have s0:=fun dd os=>cell_regrown d0 dd os
       have s1:=fun dd os=>cell_regrown d1 dd os
       have s2:=fun dd os=>cell_regrown d2 dd os
       have s3:=fun dd os=>cell_regrown d3 dd os
       have s4:=fun dd os=>cell_regrown d4 dd os
       have LA:=fun dd os o=>G1.out.regrown dd os o
       have LB:=fun dd os o=>G2.out.regrown dd os o
       have l1:=G1.out.cell
       have l2:=G2.out.cell
       cases hs:Pr.same p q
       · have HF:=y22h (Pr.sames_at hp hq hs)
         rw [hs] at CC
         have m3:=fun dd os=>y22h (Calls.regrown_of (CC dd os))
         clear hb hV hV' L0 M0 HS0 hs hp hq CC hbw
         go_wp2_with fail
         refine wp_region_quiet_below (by kernel_rfl) (by kernel_rfl) ?_
         repeat (first | go_big_quiet_step ((with_reducible exact (m3 _ _).out)) | quiet_step (with_reducible exact (m3 _ _).out))
         refine wpQuiet_nil ?_
         intro w7 hw'
         have hb':=y22h (zac hw')
         clear hw' m3 r0 r1 r2 r3 r4 s0 s1 s2 s3 s4 LA LB
         go_wp2_with fail
         go_ret
         have HF:=HF.out
         rw [HSM.out] at HF
         exact ⟨zaa HF.symm,zaj (zaj (HB.out.trans (hb'.out.mono HB.out.size)))⟩
       · have HF:=y22h (Pr.sames_take hp hq HS0 hs)
         rw [hs] at CC
         have m3:=fun dd os=>y22h (Calls.regrown_of (CC dd os))
         clear hb hV hV' L0 M0 HS0 hs hp hq CC hbw
         go_wp2_with fail
         refine wp_region_quiet_below (by kernel_rfl) (by kernel_rfl) ?_
         repeat (first | go_big_quiet_step ((with_reducible exact (m3 _ _).out)) | quiet_step (with_reducible exact (m3 _ _).out))
         refine wpQuiet_nil ?_
         intro w7 hw'
         have hb':=y22h (zac hw')
         clear hw' m3 r0 r1 r2 r3 r4 s0 s1 s2 s3 s4 LA LB
         go_wp2_with fail
         go_roundw
         case rel=>exact ⟨k + 1,by omega,by go_num,HF.out,HB.out.trans (hb'.out.mono HB.out.size)⟩
         case measure=>simp [intOf];omega
     · have HB:=y22h hb
       clear hb
       have e:k = la:=by omega
       have h7:=HS.out
       rw [Pr.take_all l (by rw [HLA.out];omega),Pr.take_all m (by rw [HLB.out];omega),HSM.out] at h7
       subst h7
       clear e
       have l1:=G1.out.cell
       have l2:=G2.out.cell
       have z1:=G1.out.lt
       have z2:=G2.out.lt
       go_wp2_with fail
       go_ret
       exact ⟨rfl,zaj (zaj HB.out)⟩
end Go.Proofs.YthnllikalobmeaaGreat
