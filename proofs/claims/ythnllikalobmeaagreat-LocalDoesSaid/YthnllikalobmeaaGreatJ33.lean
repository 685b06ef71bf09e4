/- Joined: Has, HasC, KMap, KPlS. -/
import Derived.Test.YthnllikalobmeaaGreatJ13
import Derived.Test.YthnllikalobmeaaGreatJ32
import Derived.Test.YthnllikalobmeaaGreatJ16
import Derived.Test.YthnllikalobmeaaGreatJ01
import Derived.Test.YthnllikalobmeaaGreatJ10
import Derived.Test.YthnllikalobmeaaGreatJ09
import Derived.Maps.OwnSet
import Derived.Test.YthnllikalobmeaaGreatJ11
namespace Go.Proofs.YthnllikalobmeaaGreat
set_option linter.unusedVariables false
set_option linter.unusedSimpArgs false
set_option maxRecDepth 100000
set_option maxHeartbeats 8000000
open Go.RowKit
theorem y33h {p:Prop} (h:p):Hid p:=Lib.hid h
abbrev itV (i:It) (r c st:Int) (d:Bool):Value:=.agg #[.string i.id,.int .i64 r,.int .i64 c,.int .i64 st,.string i.kd,.int .i64 i.num,.complex .f64 i.ax i.ay,.bool d]
abbrev itC (i:It) (r c st:Int) (d:Bool):Array Value:=#[.string i.id,.int .i64 r,.int .i64 c,.int .i64 st,.string i.kd,.int .i64 i.num,.complex .f64 i.ax i.ay,.bool d]
def zj4 (i:It) (r c st:Int) (d:Bool) (k:Pr):Prop:=∀ (v:Value) (w:World),LP w k v →
   Calls Tryz.prog 30 #[.agg #[.int .i64 k.op,.string k.text,.int .i64 k.n,.complex .f64 k.x k.y,v],itV i r c st d] w fun e w'=>e = .returned (.bool (k.hasB i)) ∧ Below w.heap.size w w'
theorem zqy (i:It) (r c st:Int) (d b:Bool) (k:Pr) (H:zj4 i r c st d k) (v:Value) (w:World) (hL:LP w k v) (bx bh:Nat) (hx:Has w bx (itC i r c st d)) (hh:Has w bh #[.bool b]) :
   Calls Tryz.prog 113 #[.agg #[.int .i64 k.op,.string k.text,.int .i64 k.n,.complex .f64 k.x k.y,v],.pointer (some ⟨bx,0,none⟩),.pointer (some ⟨bh,0,none⟩)] w fun e w'=>e = .returned (.bool (k.hasB i == b)) ∧ Below w.heap.size w w':=by
 obtain ⟨oq,cq,rfl⟩:=zal hL
 have CC:=fun dd os o=>H (.slice oq k.kids.length cq) (Sort.grow (redrawn (w.alloc o) dd) os) ((hL.atAlloc o).later (below_regrown _ _ _) (Nat.le_refl _))
 have m3:=fun dd os o=>y33h (Calls.regrown_of (CC dd os o))
 have G1:=y33h (Has.new w #[.int .i64 k.op,.string k.text,.int .i64 k.n,.complex .f64 k.x k.y,.slice oq k.kids.length cq] 40)
 have l1:=G1.out.cell
 have LA:=fun dd os o=>G1.out.regrown dd os o
 have LB:=fun dd os a o=>(hx.alloc a).regrown dd os o
 have LC:=fun dd os a o=>(hh.alloc a).regrown dd os o
 have z1:=hx.lt
 have z2:=hh.lt
 generalize Pr.hasB i k = kb at *
 clear CC hL H hx hh
 go_enter Tryz.func113,Tryz.ntmps113
 go_wp2_with fail
 refine wp_region_quiet_below (by kernel_rfl) (by kernel_rfl) ?_
 repeat (first | go_big_quiet_step ((with_reducible exact (m3 _ _ _).out)) | quiet_step (with_reducible exact (m3 _ _ _).out))
 refine wpQuiet_nil ?_
 intro w7 hw'
 have hb':=y33h (zac hw')
 clear hw' m3 LA LB LC
 go_wp2_with fail
 go_ret
 exact ⟨rfl,zai hb'.out⟩
def z1u (P:Pr → Bool) (l:List Pr) (len:Nat) (w0:World) (i:Value) (wr:World):Prop :=
 ∃ k:Nat,k ≤ len ∧ i = .int .i64 k ∧ Hid ((l.take k).any P = false) ∧ Below w0.heap.size w0 wr
theorem zvz {P:Pr → Bool} {l:List Pr} {k:Nat} {q:Pr} (hq:l[k]? = some q) (h:(l.take k).any P = false) (hs:P q = false):(l.take (k + 1)).any P = false:=by
 rw [Pr.take_one hq,List.any_append,h];simp [hs]
theorem zyv {P:Pr → Bool} {l:List Pr} {k:Nat} {q:Pr} (hq:l[k]? = some q) (hs:P q = true):l.any P = true:=by
 rw [List.any_eq_true];exact ⟨q,List.mem_of_getElem? hq,hs⟩
theorem zou (i:It) (r c st:Int) (d b:Bool) (l:List Pr) (H:∀ k ∈ l,zj4 i r c st d k) (oa:Option Addr) (cap:Nat) (w:World) (hL:LK w l (.slice oa l.length cap)) (bx bh:Nat) (hx:Has w bx (itC i r c st d)) (hh:Has w bh #[.bool b]) :
   Calls Tryz.prog 151 #[.slice oa l.length cap,.func (Fn.func 113) #[] #[.pointer (some ⟨bx,0,none⟩),.pointer (some ⟨bh,0,none⟩)]] w fun e w' =>
     ∃ n:Int,e = .returned (.int .i64 n) ∧ decide (0 ≤ n) = (l.any fun k=>k.hasB i == b) ∧ Below w.heap.size w w':=by
 obtain ⟨_,_,ba,o,V,e1,_,hl,hc,hn,hcell,hrec⟩:=za9 hL
 cases e1
 simp only [Pr.kids_node] at *
 unfold maxLen at hc
 have HC:=y33h hcell
 have HR:=y33h hrec
 have HN:=y33h hn
 have HH:=y33h H
 have HX:=y33h hx
 have HB2:=y33h hh
 clear hL hcell hrec hn H hx hh
 generalize hla:l.length = la at *
 have HLA:=y33h hla
 clear hla
 go_enter Tryz.func151,Tryz.ntmps151
 go_wp2_with fail
 go_loopw [8] (fun j wr=>z1u (fun k=>k.hasB i == b) l la w j wr) (fun j _=>la - (intOf j).toNat)
 case atStart=>exact ⟨0,Nat.zero_le _,rfl,by simp [Hid],Below.refl _ _⟩
 case round =>
   obtain ⟨k,hk,rfl,HS,hb⟩:=hrel
   by_cases hlt:k < la
   · obtain ⟨p,hp⟩:∃ p,l[k]? = some p:=⟨_,List.getElem?_eq_getElem (by rw [HLA.out];exact hlt)⟩
     obtain ⟨rfl,hB⟩:=HN.out (by omega)
     obtain ⟨oq,cq,hV⟩:=zal (HR.out k p hp)
     obtain ⟨c0,c1,c2,c3,c4⟩:=zcd (w:=wr) (fun j u hu=>(hb.cell (p:=⟨ba,o + k * 5 + j,none⟩) hB).trans (HC.out k p hp j u hu))
     have L0:=(HR.out k p hp).later hb (Nat.le_refl _)
     rw [hV] at c4 L0
     have CC:=zqy i r c st d b p (HH.out p (List.mem_of_getElem? hp)) (.slice oq p.kids.length cq) wr L0 bx bh (HX.out.below hb HX.out.lt) (HB2.out.below hb HB2.out.lt)
     have HB:=y33h hb
     have HS0:=HS.out
     cases hs:(p.hasB i == b)
     · have HF:=y33h (zvz (P:=fun k=>k.hasB i == b) hp HS0 hs)
       rw [hs] at CC
       have CC:=y33h CC
       clear hb hV L0 HS0 hs hp
       go_wp2_with (go_at_call 113;refine CC.out.mono ?_;rintro e w' ⟨rfl,hb'⟩)
       go_roundw
       case rel=>exact ⟨k + 1,by omega,by go_num,HF.out,HB.out.trans (hb'.mono HB.out.size)⟩
       case measure=>simp [intOf];omega
     · have HF:=y33h (zyv (P:=fun k=>k.hasB i == b) hp hs)
       rw [hs] at CC
       have CC:=y33h CC
       clear hb hV L0 HS0 hs hp
       go_wp2_with (go_at_call 113;refine CC.out.mono ?_;rintro e w' ⟨rfl,hb'⟩)
       go_ret
       exact ⟨_,rfl,by rw [HF.out];simp,HB.out.trans (hb'.mono HB.out.size)⟩
   · have HB:=y33h hb
     clear hb
     have e:k = la:=by omega
     have h7:=HS.out
     rw [Pr.take_all l (by rw [HLA.out];omega)] at h7
     have H7:=y33h h7
     clear h7 e
     go_wp2_with fail
     go_ret
     exact ⟨_,rfl,by rw [H7.out];simp,HB.out⟩
theorem zkf (i:It) (r c st:Int) (d b:Bool) (l:List Pr) (H:∀ k ∈ l,zj4 i r c st d k) (oa:Option Addr) (cap:Nat) (w:World) (hL:LK w l (.slice oa l.length cap)) (bx bh:Nat) (hx:Has w bx (itC i r c st d)) (hh:Has w bh #[.bool b]) :
   Calls Tryz.prog 112 #[.slice oa l.length cap,.func (Fn.func 113) #[] #[.pointer (some ⟨bx,0,none⟩),.pointer (some ⟨bh,0,none⟩)]] w fun e w' =>
     e = .returned (.bool (l.any fun k=>k.hasB i == b)) ∧ Below w.heap.size w w':=by
 have C:=y33h (zou i r c st d b l H oa cap w hL bx bh hx hh)
 clear H hL hx hh
 go_enter Tryz.func112,Tryz.ntmps112
 go_wp2_with (go_at_call 151;refine C.out.mono ?_;rintro e w' ⟨n,rfl,hn,hb⟩)
 go_ret
 exact ⟨zaa (by rw [← hn]),hb⟩
theorem zs8 (i:It) (r c st:Int) (d b:Bool) (l:List Pr) (H:∀ k ∈ l,zj4 i r c st d k) (oa:Option Addr) (cap:Nat) (w:World) (hL:LK w l (.slice oa l.length cap)) :
   Calls Tryz.prog 66 #[.slice oa l.length cap,itV i r c st d,.bool b] w fun e w' =>
     e = .returned (.bool (l.any fun k=>k.hasB i == b)) ∧ Below w.heap.size w w':=by
 have C:=y33h (zkf i r c st d b l H oa cap ((w.alloc (.cells (itC i r c st d) 69)).alloc (.cells #[.bool b] 4)) ((hL.atAlloc _).atAlloc _) w.heap.size (w.heap.size + 1) ((Has.new w _ _).alloc _) ((Own.newAt _ _ _ (by simp)).has))
 clear H hL
 go_enter Tryz.func66,Tryz.ntmps66
 go_wp2_with (go_at_call 112;refine C.out.mono ?_;rintro e w' ⟨rfl,hb⟩)
 go_ret
 exact ⟨rfl,zai (zai hb)⟩
theorem zyt (i:It) (l:List Pr):Pr.hasAll i l = !(l.any fun k=>k.hasB i == false):=by
 induction l with
 | nil=>simp [Pr.hasAll]
 | cons a l ih=>simp only [Pr.hasAll,ih,List.any_cons,Bool.not_or];cases Pr.hasB i a <;> simp
theorem zyu (i:It) (l:List Pr):Pr.hasAny i l = l.any fun k=>k.hasB i == true:=by
 induction l with
 | nil=>simp [Pr.hasAny]
 | cons a l ih=>simp only [Pr.hasAny,ih,List.any_cons];cases Pr.hasB i a <;> simp
theorem zuf (i:It) (r c st:Int) (d:Bool) (hid:i.id.size ≤ maxLen) (p:Pr):zj4 i r c st d p:=by
 induction p using Pr.ind with
 | h op t n x y kids ih =>
   intro v w hL
   obtain ⟨oa,cap,b,o,V,rfl,ht,hl,hc,hn,hcell,hrec⟩:=za9 hL
   have LK0:=zur hL
   simp only [Pr.kids_node,Pr.text_node,Pr.op_node,Pr.n_node,Pr.x_node,Pr.y_node] at *
   unfold maxLen at hc
   have SM:=fun b w' h=>y33h (zs8 i r c st d b kids ih oa cap w' h)
   have LL:=fun a a'=>y33h ((LK0.atAlloc a).atAlloc a')
   have HC:=y33h hcell
   have HR:=y33h hrec
   have HN:=y33h hn
   have HI:=y33h ih
   have HT:=y33h ht
   have HID:=y33h hid
   clear hL LK0 hcell hrec hn ih ht hid
   have HAll:=y33h (zyt i kids)
   have HAny:=y33h (zyu i kids)
   generalize hlen:kids.length = len at *
   have HLEN:=y33h hlen
   clear hlen
   generalize hres:Pr.hasB i (.node op t n x y kids) = res
   have HRES:=y33h hres
   clear hres
   have BE:=fun (a a':Obj)=>y33h (((Below.refl w.heap.size w).alloc (Nat.le_refl _) a).alloc (by simp) a')
   have hop:op = 1 ∨ op = 3 ∨ op = 4 ∨ op = 5 ∨ op = 6 ∨ op = 7 ∨ op = 8 ∨ op = 9 ∨ op = 10 ∨ (op ≠ 1 ∧ op ≠ 3 ∧ op ≠ 4 ∧ op ≠ 5 ∧ op ≠ 6 ∧ op ≠ 7 ∧ op ≠ 8 ∧ op ≠ 9 ∧ op ≠ 10):=by omega
   rcases hop with rfl | rfl | rfl | rfl | rfl | rfl | rfl | rfl | rfl | ⟨n1,n3,n4,n5,n6,n7,n8,n9,n10⟩
   · have E:=y33h (show res = true by rw [← HRES.out];simp [Pr.hasB])
     go_enter Tryz.func30,Tryz.ntmps30
     go_wp2_with fail
     go_ret
     exact ⟨zaa E.out.symm,(BE _ _).out⟩
   · have E:=y33h (show res = decide (i.kd.toList = t.toList) by rw [← HRES.out];simp [Pr.hasB])
     go_enter Tryz.func30,Tryz.ntmps30
     go_wp2_with fail
     all_goals
       go_ret
       exact ⟨zaa (by rw [E.out];first | done | (rw [Bool.eq_iff_iff];simp;done) | (simp_all;done)),(BE _ _).out⟩
   · have E:=y33h (show res = begB i.id t by rw [← HRES.out];simp [Pr.hasB])
     have C:=fun w=>y33h (zpk i.id t w HID.out HT.out)
     go_enter Tryz.func30,Tryz.ntmps30
     go_wp2_with (go_at_call 64;refine (C _).out.mono ?_;rintro e w' ⟨rfl,rfl⟩)
     go_ret
     exact ⟨zaa E.out.symm,(BE _ _).out⟩
   · have E:=y33h (show res = decide (i.num < n) by rw [← HRES.out];simp [Pr.hasB])
     go_enter Tryz.func30,Tryz.ntmps30
     go_wp2_with fail
     all_goals
       go_ret
       exact ⟨zaa (by rw [E.out];first | done | (rw [Bool.eq_iff_iff];simp;done) | (simp_all;done)),(BE _ _).out⟩
   · have E:=y33h (show res = decide (n ≤ i.num) by rw [← HRES.out];simp [Pr.hasB])
     go_enter Tryz.func30,Tryz.ntmps30
     go_wp2_with fail
     all_goals
       go_ret
       exact ⟨zaa (by rw [E.out];first | done | (rw [Bool.eq_iff_iff];simp;done) | (simp_all;done)),(BE _ _).out⟩
   · have E:=y33h (show res = zit i.ax i.ay x y n by rw [← HRES.out];simp [Pr.hasB])
     have C:=fun w=>y33h (zst i.ax i.ay x y n w)
     generalize zit i.ax i.ay x y n = fv at *
     go_enter Tryz.func30,Tryz.ntmps30
     go_wp2_with (go_at_call 65;refine (C _).out.mono ?_;rintro e w' ⟨rfl,rfl⟩)
     go_ret
     exact ⟨zaa E.out.symm,(BE _ _).out⟩
   · have E:=y33h (show res = !(kids.any fun k=>k.hasB i == false) by rw [← HRES.out,← HAll.out];simp [Pr.hasB])
     go_enter Tryz.func30,Tryz.ntmps30
     go_wp2_with (go_at_call 66;refine (SM _ _ (LL _ _).out).out.mono ?_;rintro e w' ⟨rfl,hb⟩)
     go_ret
     exact ⟨zaa (by rw [E.out];simp),zai (zai hb)⟩
   · have E:=y33h (show res = (kids.any fun k=>k.hasB i == true) by rw [← HRES.out,← HAny.out];simp [Pr.hasB])
     go_enter Tryz.func30,Tryz.ntmps30
     go_wp2_with (go_at_call 66;refine (SM _ _ (LL _ _).out).out.mono ?_;rintro e w' ⟨rfl,hb⟩)
     go_ret
     exact ⟨zaa (by rw [E.out];simp),zai (zai hb)⟩
   · by_cases h0:len = 0
     · subst h0
       have E:=y33h (show res = false by rw [← HRES.out,List.length_eq_zero_iff.1 HLEN.out];simp [Pr.hasB,Pr.hasNot])
       have G1:=y33h ((Has.new w #[.int .i64 10,.string t,.int .i64 n,.complex .f64 x y,.slice oa 0 cap] 40).alloc (.cells (itC i r c st d) 69))
       have G2:=y33h ((Own.newAt (w.alloc (.cells #[.int .i64 10,.string t,.int .i64 n,.complex .f64 x y,.slice oa 0 cap] 40)) (itC i r c st d) 69 (b:=w.heap.size + 1) (by simp)).has)
       have LA:=fun dd os o=>G1.out.regrown dd os o
       have LB:=fun dd os o=>G2.out.regrown dd os o
       have l1:=G1.out.cell
       go_enter Tryz.func30,Tryz.ntmps30
       go_wp2_with fail
       refine wp_region_quiet_below (by kernel_rfl) (by kernel_rfl) ?_
       repeat (first | go_big_quiet_step (fail) | quiet_step (fail))
       refine wpQuiet_nil ?_
       intro w7 hw'
       have hb':=y33h (zac hw')
       clear hw'
       go_wp2_with fail
       go_ret
       exact ⟨zaa E.out.symm,zai (zai hb'.out)⟩
     · obtain ⟨q,hq⟩:∃ q,kids[0]? = some q:=⟨_,List.getElem?_eq_getElem (by rw [HLEN.out];omega)⟩
       obtain ⟨rfl,hB⟩:=HN.out (by omega)
       obtain ⟨oq,cq,hV⟩:=zal (HR.out 0 q hq)
       have hbw:Below w.heap.size w ((w.alloc (.cells #[.int .i64 10,.string t,.int .i64 n,.complex .f64 x y,.slice (some ⟨b,o,none⟩) len cap] 40)).alloc (.cells (itC i r c st d) 69)):=(BE _ _).out
       obtain ⟨c0,c1,c2,c3,c4⟩:=zcd (w:=((w.alloc (.cells #[.int .i64 10,.string t,.int .i64 n,.complex .f64 x y,.slice (some ⟨b,o,none⟩) len cap] 40)).alloc (.cells (itC i r c st d) 69))) (fun j u hu=>(hbw.cell (p:=⟨b,o + 0 * 5 + j,none⟩) hB).trans (HC.out 0 q hq j u hu))
       have L0:=(HR.out 0 q hq).later hbw (Nat.le_refl _)
       rw [hV] at c4 L0
       have CC:=fun dd os=>HI.out q (List.mem_of_getElem? hq) (.slice oq q.kids.length cq) (Sort.grow (redrawn ((w.alloc (.cells #[.int .i64 10,.string t,.int .i64 n,.complex .f64 x y,.slice (some ⟨b,o,none⟩) len cap] 40)).alloc (.cells (itC i r c st d) 69)) dd) os) (L0.later (below_regrown _ _ _) (Nat.le_refl _))
       have r0:=fun dd os=>cell_regrown c0 dd os
       have r1:=fun dd os=>cell_regrown c1 dd os
       have r2:=fun dd os=>cell_regrown c2 dd os
       have r3:=fun dd os=>cell_regrown c3 dd os
       have r4:=fun dd os=>cell_regrown c4 dd os
       have G1:=y33h ((Has.new w #[.int .i64 10,.string t,.int .i64 n,.complex .f64 x y,.slice (some ⟨b,o,none⟩) len cap] 40).alloc (.cells (itC i r c st d) 69))
       have G2:=y33h ((Own.newAt (w.alloc (.cells #[.int .i64 10,.string t,.int .i64 n,.complex .f64 x y,.slice (some ⟨b,o,none⟩) len cap] 40)) (itC i r c st d) 69 (b:=w.heap.size + 1) (by simp)).has)
       have LA:=fun dd os o=>G1.out.regrown dd os o
       have LB:=fun dd os o=>G2.out.regrown dd os o
       have l1:=G1.out.cell
       have E:=y33h (show res = !(Pr.hasB i q) by
         rw [← HRES.out]
         match kids,hq with
         | a :: l,hq=>simp at hq;subst hq;simp [Pr.hasB,Pr.hasNot])
       have m3:=fun dd os=>y33h (Calls.regrown_of (CC dd os))
       have hk0:(0:Int) < (len:Int):=by omega
       have hk1:0 < len:=by omega
       have hk2:decide (0 < len) = true:=by simp;omega
       have hk3:decide ((0:Int) < (len:Int)) = true:=by simp;omega
       generalize Pr.hasB i q = rq at *
       clear hV L0 hq CC hbw
       simp only [Nat.zero_mul,Nat.add_zero] at r0 r1 r2 r3 r4
       go_enter Tryz.func30,Tryz.ntmps30
       go_wp2_with fail
       refine wp_region_quiet_below (by kernel_rfl) (by kernel_rfl) ?_
       repeat (first | go_big_quiet_step ((with_reducible exact (m3 _ _).out)) | quiet_step (with_reducible exact (m3 _ _).out))
       refine wpQuiet_nil ?_
       intro w7 hw'
       have hb':=y33h (zac hw')
       clear hw' m3 r0 r1 r2 r3 r4 LA LB
       go_wp2_with fail
       go_ret
       exact ⟨zaa E.out.symm,zai (zai hb'.out)⟩
   · have E:=y33h (show res = false by rw [← HRES.out];simp [Pr.hasB,n1,n3,n4,n5,n6,n7,n8,n9,n10])
     go_enter Tryz.func30,Tryz.ntmps30
     go_wp2_with fail
     go_ret
     exact ⟨zaa E.out.symm,(BE _ _).out⟩
end Go.Proofs.YthnllikalobmeaaGreat
namespace Go.Proofs.YthnllikalobmeaaGreat
set_option linter.unusedVariables false
set_option linter.unusedSimpArgs false
set_option maxRecDepth 100000
set_option maxHeartbeats 8000000
open Go.RowKit Go.Maps
abbrev zsh (v:Value):Option (DataW Value × List MemPlace):=some (.held v,[])
abbrev keyL (s:ByteArray):Lit:=.string s.data.toList
theorem zo6 {s t:ByteArray} (h:keyL s = keyL t):s = t:=by
 simp only [keyL,Lit.string.injEq] at h
 cases s;cases t;simp at h;subst h;rfl
theorem zrg {s:ByteArray} (h:s.size ≤ maxLen):keyOf Tryz.prog 9 (.string s) = some (keyL s):=by
 simp [keyOf,mapKey,Tryz.underlying9,h]
theorem lawS:Keyed Tryz.prog 9:=string_keyed Tryz.underlying9
theorem zz0 (w:World):(zeroValue 28).run Tryz.prog w = .ok (vecV zad) w:=by kernel_rfl
def Cnt (w:World) (b nn:Nat) (ids:List ByteArray) (raw:ByteArray → Nat → Int):Prop :=
 ∃ D:DataW Value,w.ownsMap Tryz.prog 9 zsh b nn D ∧ (∀ s,D.atKey (keyL s) (.held (vecV zad)) = .held (vecV (raw s))) ∧ (∀ s,Maps.has D (keyL s) = true ↔ s ∈ ids)
section
variable {w w':World} {b nn:Nat} {ids:List ByteArray} {raw:ByteArray → Nat → Int}
theorem Cnt.made (w:World):Cnt (w.alloc (.map #[] 0)) w.heap.size 0 [] (fun _=>zad) :=
 ⟨.map [],World.ownsMap_made _ _ _ _,fun s=>by simp [DataW.atKey],fun s=>by simp [Maps.has]⟩
theorem Cnt.lt (h:Cnt w b nn ids raw):b < w.heap.size:=by
 obtain ⟨D,h,_⟩:=h
 exact h.lt
theorem Cnt.later (h:Cnt w b nn ids raw) (hb:Below w.heap.size w w'):Cnt w' b nn ids raw:=by
 have hlt:=h.lt
 obtain ⟨D,⟨es,clock,h1,F,h2,h3⟩,r⟩:=h
 exact ⟨D,⟨es,clock,(hb.block b hlt).trans h1,F,h2,h3⟩,r⟩
theorem Cnt.look (h:Cnt w b nn ids raw) {s:ByteArray} (hs:s.size ≤ maxLen):(Instr.lookup 145 (.map (some b)) (.string s) false).run Tryz.prog w = .ok (vecV (raw s)) w:=by
 obtain ⟨D,ho,ha,_⟩:=h
 obtain ⟨v,ps,hrun,hv⟩:=ho.lookup lawS Tryz.underlying145 (zz0 w) rfl (zrg hs)
 rw [ha] at hv
 simp only [zsh,Option.some.injEq,Prod.mk.injEq,DataW.held.injEq] at hv
 rw [hrun,hv.1]
theorem Cnt.put (h:Cnt w b nn ids raw) {s:ByteArray} (hs:s.size ≤ maxLen) (hn:nn < maxLen) (A:Nat → Int):∃ w',(Instr.mapUpdate 145 (.map (some b)) (.string s) (vecV A)).run Tryz.prog w = .ok () w' ∧
   Cnt w' b (nn + 1) (ids ++ [s]) (fun x=>if x = s then A else raw x) ∧ w.grownBy w' (some b):=by
 obtain ⟨D,ho,ha,hh⟩:=h
 obtain ⟨w',hrun,h1,h2⟩:=ho.update lawS Tryz.underlying145 hn (val:=vecV A) (zrg hs) rfl
 have hI:=ho.isMap
 refine ⟨w',hrun,⟨_,h1,fun x=>?_,fun x=>?_⟩,h2⟩
 · by_cases e:x = s
   · subst e
     rw [atKey_put_same hI (by exact trivial)]
     simp
   · rw [atKey_put_other (fun e'=>e (zo6 e')),ha x]
     simp [e]
 · by_cases e:x = s
   · subst e
     rw [has_put_same hI (by exact trivial)];simp
   · rw [has_put_other (fun e'=>e (zo6 e')),hh x];simp [e]
end
def pcEs:Nat → List (Nat → Int) → List MapEntry
 | _,[]=>[]
 | i,A :: l=>⟨vecV A,.int .i64 (i:Int),i⟩ :: pcEs (i + 1) l
theorem zxc (l m:List (Nat → Int)):∀ i,pcEs i (l ++ m) = pcEs i l ++ pcEs (i + l.length) m:=by
 induction l with
 | nil=>intro i;simp [pcEs]
 | cons a l ih=>intro i;simp only [List.cons_append,pcEs,ih,List.length_cons];rw [show i + 1 + l.length = i + (l.length + 1) by omega]
def Pcs (w:World) (b:Nat) (vs:List (Nat → Int)):Prop:=w.heap[b]? = some (.map (pcEs 0 vs).toArray vs.length)
theorem zjr (A B:Nat → Int):eqV A B = eqV B A:=by
 cases h:eqV A B with
 | true=>exact (eqV_iff.2 fun k hk=>(eqV_iff.1 h k hk).symm).symm
 | false =>
   cases h':eqV B A with
   | false=>rfl
   | true=>rw [eqV_iff.2 fun k hk=>(eqV_iff.1 h' k hk).symm] at h;cases h
theorem zoc (A B:Nat → Int) (w:World):(Op.equal 28 (vecV A) (vecV B)).run Tryz.prog w = .ok (eqV A B) w:=zek A B w
theorem zn5 (em:Bool) (A:Nat → Int) (w:World):(Instr.checkKey em 10000 28 (vecV A)).run Tryz.prog w = .ok () w:=by
 have ju:=Tryz.underlying3
 have ja:=Tryz.isAgg3
 have jz:=Tryz.sizeOf3
 rw [show (10000:Nat) = 9999 + 1 from rfl,Instr.checkKey]
 simp only [Sem.run_bind,run_underlying Tryz.underlying28,Result.andThen_ok]
 have hk:∀ n x w',(Instr.checkKey em (n + 1) 3 (.int .i64 x)).run Tryz.prog w' = .ok () w':=fun n x w'=>MapKept.run_checkKey ju (by first | exact rfl | simp [MapKept.IsKey]) em n
 simp only [Std.Legacy.Range.forIn_eq_forIn_range',Std.Legacy.Range.size,Nat.sub_zero,Nat.add_sub_cancel,Nat.div_one,List.range'_succ,List.range'_zero,List.forIn_cons,List.forIn_nil]
 rw [show (9999:Nat) = 9998 + 1 from rfl]
 go_simp
theorem zjl (A:Nat → Int):∀ (vs:List (Nat → Int)) (i j:Nat) (w:World),(∀ B ∈ vs,eqV B A = false) → (Instr.findAsking 28 (vecV A) (pcEs i vs) j).run Tryz.prog w = .ok none w
 | [],i,j,w,_=>by simp [pcEs,Instr.findAsking]
 | B :: vs,i,j,w,h=>by
   have e:=zoc A B w
   rw [zjr,h B (by simp)] at e
   simp only [pcEs,Instr.findAsking,Sem.run_bind,e,Result.andThen_ok]
   exact zjl A vs (i + 1) (j + 1) w fun C hC=>h C (by simp [hC])
theorem zq4 (A:Nat → Int):∀ (vs:List (Nat → Int)) (i j a:Nat) (w:World),(∀ k B,k < a → vs[k]? = some B → eqV B A = false) → (∃ B,vs[a]? = some B ∧ eqV B A = true) → (Instr.findAsking 28 (vecV A) (pcEs i vs) j).run Tryz.prog w = .ok (some (j + a,.int .i64 ((i + a:Nat):Int))) w
 | [],i,j,a,w,_,h=>by obtain ⟨B,h,_⟩:=h;simp at h
 | C :: vs,i,j,0,w,_,h=>by
   obtain ⟨B,hB,hq⟩:=h
   simp at hB;subst hB
   have e:=zoc A C w
   rw [zjr,hq] at e
   simp [pcEs,Instr.findAsking,Sem.run_bind,e,Result.andThen_ok]
 | C :: vs,i,j,a + 1,w,hn,h=>by
   have e:=zoc A C w
   rw [zjr,hn 0 C (by omega) rfl] at e
   simp only [pcEs,Instr.findAsking,Sem.run_bind,e,Result.andThen_ok]
   have:=zq4 A vs (i + 1) (j + 1) a w (fun k B hk hB=>hn (k + 1) B (by omega) (by simpa using hB)) (by obtain ⟨B,hB,hq⟩:=h;exact ⟨B,by simpa using hB,hq⟩)
   rw [show i + 1 + a = i + (a + 1) by omega,show j + 1 + a = j + (a + 1) by omega] at this
   exact this
theorem zsc (A:Nat → Int) (vs:List (Nat → Int)) (i:Nat) (w:World) {r:Option (Nat × Value)} (h:(Instr.findAsking 28 (vecV A) (pcEs i vs) 0).run Tryz.prog w = .ok r w):(Instr.findKey 28 (vecV A) (pcEs i vs)).run Tryz.prog w = .ok r w:=by
 unfold Instr.findKey
 simp only [Sem.run_bind,run_underlying Tryz.underlying28,Result.andThen_ok]
 cases vs with
 | nil=>simp [pcEs,Instr.findNow,Instr.findAsking] at *;exact h
 | cons B vs=>simp only [pcEs,Instr.findNow,Instr.sameNow] at *;exact h
section
variable {w w':World} {b:Nat} {vs:List (Nat → Int)}
theorem Pcs.made (w:World):Pcs (w.alloc (.map #[] 0)) w.heap.size []:=(MapKept.heap_alloc w _).1
theorem Pcs.lt (h:Pcs w b vs):b < w.heap.size:=(Array.getElem?_eq_some_iff.1 h).1
theorem Pcs.later (h:Pcs w b vs) (hb:Below w.heap.size w w'):Pcs w' b vs:=(hb.block b h.lt).trans h
theorem z2l (w:World):(zeroValue 3).run Tryz.prog w = .ok (.int .i64 0) w:=by kernel_rfl
theorem Pcs.miss (h:Pcs w b vs) {A:Nat → Int} (hn:∀ B ∈ vs,eqV B A = false):(Instr.lookup 147 (.map (some b)) (vecV A) true).run Tryz.prog w = .ok (.tuple #[.int .i64 0,.bool false]) w:=by
 simp [Instr.lookup,run_underlying Tryz.underlying147,MapKept.run_getObj_map h,zn5,zsc A vs 0 w (zjl A vs 0 0 w hn),z2l,Result.andThen]
theorem Pcs.hit (h:Pcs w b vs) {A:Nat → Int} {a:Nat} (hn:∀ k B,k < a → vs[k]? = some B → eqV B A = false) (hi:∃ B,vs[a]? = some B ∧ eqV B A = true):(Instr.lookup 147 (.map (some b)) (vecV A) true).run Tryz.prog w = .ok (.tuple #[.int .i64 a,.bool true]) w:=by
 have e:=zq4 A vs 0 0 a w hn hi
 simp only [Nat.zero_add] at e
 simp [Instr.lookup,run_underlying Tryz.underlying147,MapKept.run_getObj_map h,zn5,zsc A vs 0 w e,Result.andThen]
theorem Pcs.put (h:Pcs w b vs) {A:Nat → Int} (hn:∀ B ∈ vs,eqV B A = false):∃ w',(Instr.mapUpdate 147 (.map (some b)) (vecV A) (.int .i64 (vs.length:Int))).run Tryz.prog w = .ok () w' ∧ Pcs w' b (vs ++ [A]) ∧ w.grownBy w' (some b):=by
 refine ⟨ChangeMaps.setBlock w b (.map ((pcEs 0 vs).toArray.push ⟨vecV A,.int .i64 (vs.length:Int),vs.length⟩) (vs.length + 1)),?_,?_,⟨rfl,rfl,rfl,by simp [ChangeMaps.setBlock],fun i _ hi=>ChangeMaps.heap_setBlock_other h _ (fun e=>hi (by rw [e]))⟩⟩
 · simp [Instr.mapUpdate,run_underlying Tryz.underlying147,MapKept.run_getObj_map h,zn5,zsc A vs 0 w (zjl A vs 0 0 w hn),MapKept.run_setObj_map _ h,Result.andThen,ChangeMaps.setBlock]
 · unfold Pcs
   rw [ChangeMaps.heap_setBlock_same h]
   rw [zxc]
   simp [pcEs]
end
end Go.Proofs.YthnllikalobmeaaGreat
namespace Go.Proofs.YthnllikalobmeaaGreat
set_option linter.unusedVariables false
set_option linter.unusedSimpArgs false
set_option maxRecDepth 100000
set_option maxHeartbeats 8000000
open Go.RowKit Go.Maps
def FrOwn (w:World) (B:Nat) (l:List Fr) (v:Value):Prop:=(∀ f ∈ l,∀ s ∈ f.ids,s.size ≤ maxLen) ∧ ∃ U,PK w B l U v
theorem PK.mono {w:World} {base B:Nat} {o:List Fr} {U:Nat → Value} {Lv:Value} (h:PK w base o U Lv) (hB:B ≤ base):PK w B o U Lv :=
 ⟨⟨h.row.1,h.row.2.imp id fun ⟨g,cap,cur,h1,h2,h3⟩=>⟨g,cap,cur,h1,Nat.le_trans hB h2,h3⟩⟩,fun i f hf=>(h.ids i f hf).mono hB,h.apart⟩
theorem FrOwn.fresh {w:World} {B:Nat} {l:List Fr} {v:Value} (h:FrOwn w B l v):FrFresh w B l v:=by
 obtain ⟨hok,U,h⟩:=h
 exact h.fresh (Nat.le_refl _) hok
theorem FrOwn.fr {w:World} {B:Nat} {l:List Fr} {v:Value} (h:FrOwn w B l v):FrW w l v:=h.fresh.fr
theorem FrOwn.mono {w:World} {B B':Nat} {l:List Fr} {v:Value} (h:FrOwn w B l v) (hB:B' ≤ B):FrOwn w B' l v:=by
 obtain ⟨hok,U,h⟩:=h
 exact ⟨hok,U,h.mono hB⟩
theorem FrOwn.setLow {w:World} {B:Nat} {l:List Fr} {v:Value} (h:FrOwn w B l v) {a:Addr} (ha:a.block < B) (u:Value):FrOwn (w.setCell a u) B l v:=by
 obtain ⟨hok,U,h⟩:=h
 exact ⟨hok,U,h.setLow ha u⟩
structure KP (w0:World) (base bm bp nc:Nat) (X Z:Array Value) (ids:List ByteArray) (raw:ByteArray → Nat → Int) (names:List ByteArray) (nv:Value) (vs:List (Nat → Int)) (o:List Fr) (U:Nat → Value) (Lv:Value) (wr:World):Prop where
 o1:Own wr w0.heap.size X 31
 o2:Own wr (w0.heap.size + 1) Z 31
 cnt:Cnt wr bm nc ids raw
 pcs:Pcs wr bp vs
 nm:OwnT wr w0.heap.size names nv
 nb:∀ b,nv.ownBlock = some b → b < base
 pk:PK wr base o U Lv
 bel:Below w0.heap.size w0 wr
 hb:w0.heap.size + 1 < bp
 hm:bm < base ∧ bm ≠ bp
 hp:bp < base
 hw:base ≤ wr.heap.size
section
variable {w0 wr w':World} {base bm bp nc:Nat} {X Z:Array Value} {ids:List ByteArray} {raw:ByteArray → Nat → Int} {names:List ByteArray} {nv:Value} {vs:List (Nat → Int)} {o:List Fr} {U:Nat → Value} {Lv:Value}
theorem KP.low (h:KP w0 base bm bp nc X Z ids raw names nv vs o U Lv wr) (hs:∀ b,b < base → w'.heap[b]? = wr.heap[b]?):Own w' w0.heap.size X 31 ∧ Own w' (w0.heap.size + 1) Z 31 ∧ Cnt w' bm nc ids raw ∧ Pcs w' bp vs ∧ OwnT w' w0.heap.size names nv:=by
 have h1:=h.hb;have h2:=h.hm;have h3:=h.hp
 refine ⟨⟨(hs _ (by omega)).trans h.o1.blk⟩,⟨(hs _ (by omega)).trans h.o2.blk⟩,?_,(hs _ h3).trans h.pcs,?_⟩
 · obtain ⟨D,⟨es,clock,q1,F,q2,q3⟩,r⟩:=h.cnt
   exact ⟨D,⟨es,clock,(hs _ h2.1).trans q1,F,q2,q3⟩,r⟩
 · refine ⟨h.nm.1,?_⟩
   rcases h.nm.2 with q | ⟨g,cap,cur,hv,hg,hh,r⟩
   · exact .inl q
   · exact .inr ⟨g,cap,cur,hv,hg,(hs g (h.nb g (by rw [hv];rfl))).trans hh,r⟩
theorem KP.later (h:KP w0 base bm bp nc X Z ids raw names nv vs o U Lv wr) (hb:Below wr.heap.size wr w'):KP w0 base bm bp nc X Z ids raw names nv vs o U Lv w' :=
 have hl:=h.low (w':=w') fun b hlt=>hb.block b (Nat.lt_of_lt_of_le hlt h.hw)
 ⟨hl.1,hl.2.1,hl.2.2.1,hl.2.2.2.1,hl.2.2.2.2,h.nb,h.pk.later hb,h.bel.trans (hb.mono h.bel.size),h.hb,h.hm,h.hp,Nat.le_trans h.hw hb.size⟩
theorem KP.alloc (h:KP w0 base bm bp nc X Z ids raw names nv vs o U Lv wr) (ob:Obj):KP w0 base bm bp nc X Z ids raw names nv vs o U Lv (wr.alloc ob):=h.later ((Below.refl _ _).alloc (Nat.le_refl _) _)
theorem KP.put (h:KP w0 base bm bp nc X Z ids raw names nv vs o U Lv wr) {vs':List (Nat → Int)} (hp:Pcs w' bp vs') (hg:wr.grownBy w' (some bp)):KP w0 base bm bp nc X Z ids raw names nv vs' o U Lv w':=by
 have h1:=h.hb;have h2:=h.hm;have h3:=h.hp;have h4:=h.hw;have h5:=h.bel.size
 have hs:∀ b,b < wr.heap.size → b ≠ bp → w'.heap[b]? = wr.heap[b]?:=fun b hb hne=>hg.block b hb (by simp [hne])
 refine ⟨⟨(hs _ (by omega) (by omega)).trans h.o1.blk⟩,⟨(hs _ (by omega) (by omega)).trans h.o2.blk⟩,?_,hp,?_,h.nb,h.pk.kept fun b hb hlt=>hs b hlt (by omega),h.bel.grown hg (by omega) (fun k hk=>by cases hk;omega),h.hb,h.hm,h.hp,Nat.le_trans h.hw hg.size⟩
 · obtain ⟨D,⟨es,clock,q1,F,q2,q3⟩,r⟩:=h.cnt
   exact ⟨D,⟨es,clock,(hs _ (by omega) h2.2).trans q1,F,q2,q3⟩,r⟩
 · refine World.ownsRow.kept h.nm hg ?_
   rcases h.nm.2 with ⟨rfl,_⟩ | ⟨g,cap,cur,rfl,_,hh,_⟩
   · exact .inl rfl
   · right
     intro e
     simp only [Value.ownBlock,Option.some.injEq] at e
     subst e
     have hq:=h.pcs
     unfold Pcs at hq
     rw [hh] at hq
     cases hq
theorem KP.grow (h:KP w0 base bm bp nc X Z ids raw names nv vs o U Lv wr) {row:Option Nat} (hg:wr.grownBy w' row) (hr:∀ k,row = some k → base ≤ k) {o':List Fr} {U':Nat → Value} {Lv':Value} (hk:PK w' base o' U' Lv'):KP w0 base bm bp nc X Z ids raw names nv vs o' U' Lv' w' :=
 have hl:=h.low (w':=w') fun b hlt=>hg.block b (Nat.lt_of_lt_of_le hlt h.hw) (fun e=>by have:=hr b e.symm;omega)
 ⟨hl.1,hl.2.1,hl.2.2.1,hl.2.2.2.1,hl.2.2.2.2,h.nb,hk,h.bel.grown hg h.bel.size (fun k hk=>by have:=hr k hk;have:=h.hb;have:=h.hp;omega),h.hb,h.hm,h.hp,Nat.le_trans h.hw hg.size⟩
theorem KP.addF (h:KP w0 base bm bp nc X Z ids raw names nv vs o U Lv wr) (v:Nat → Int) {g n cap:Nat} (hn:n = o.length + 1)
   (hown:w'.ownsRow base 105 9 (.slice (some ⟨g,0,none⟩) n cap) n (frCs U 0 o ++ fc ⟨[],v⟩ (.slice none 0 0))) (hgrow:wr.grownBy w' Lv.ownBlock) :
   KP w0 base bm bp nc X Z ids raw names nv vs (o ++ [⟨[],v⟩]) (updU U o.length (.slice none 0 0)) (.slice (some ⟨g,0,none⟩) n cap) w' :=
 h.grow hgrow (fun k hk=>(World.ownsRow.lt h.pk.row k hk).1) (h.pk.pushF v hn hown hgrow)
theorem KP.addT {gl nl cl:Nat} (h:KP w0 base bm bp nc X Z ids raw names nv vs o U (.slice (some ⟨gl,0,none⟩) nl cl) wr) {a:Nat} {f:Fr} (hf:o[a]? = some f) (s:ByteArray) {g n cap:Nat} (hn:n = f.ids.length + 1)
   (hown:w'.ownsRow base 9 1 (.slice (some ⟨g,0,none⟩) n cap) n (txC f.ids ++ [.string s])) (hgrow:wr.grownBy w' (U a).ownBlock) (hat:(U a).ownBlock = some g ∨ g = wr.heap.size) :
   KP w0 base bm bp nc X Z ids raw names nv vs (o.set a ⟨f.ids ++ [s],f.v⟩) (updU U a (.slice (some ⟨g,0,none⟩) n cap)) (.slice (some ⟨gl,0,none⟩) nl cl) (w'.setCell ⟨gl,a * 9,none⟩ (.slice (some ⟨g,0,none⟩) n cap)):=by
 have hu:=h.pk.ids a f hf
 have hgl:base ≤ gl:=(World.ownsRow.lt h.pk.row gl rfl).1
 have hr:∀ k,(U a).ownBlock = some k → base ≤ k:=fun k hk=>(World.ownsRow.lt hu k hk).1
 have hl:=h.low (w':=w'.setCell ⟨gl,a * 9,none⟩ (.slice (some ⟨g,0,none⟩) n cap)) fun b hlt=>(Below.heap_setCell _ _ _ _ (by show b ≠ gl;omega)).trans (hgrow.block b (Nat.lt_of_lt_of_le hlt h.hw) (fun e=>by have:=hr b e.symm;omega))
 have h1:=h.hb;have h3:=h.hp;have h4:=hgrow.size;have h5:=h.hw
 exact ⟨hl.1,hl.2.1,hl.2.2.1,hl.2.2.2.1,hl.2.2.2.2,h.nb,h.pk.pushT hf s hn hown hgrow hat,(h.bel.grown hgrow h.bel.size (fun k hk=>by have:=hr k hk;omega)).setCell (by show w0.heap.size ≤ gl;omega) _,h.hb,h.hm,h.hp,by simp [World.setCell];omega⟩
theorem kp9o (h:KP w0 base bm bp nc X Z ids raw names nv vs o U Lv wr) (hok:∀ f ∈ o,∀ s ∈ f.ids,s.size ≤ maxLen) (c0 c1 c2 c3 c4 c5 c6 c7 c8:Value):FrOwn (st9 wr (w0.heap.size + 1) c0 c1 c2 c3 c4 c5 c6 c7 c8) w0.heap.size o Lv:=by
 have hb:∀ q,((⟨w0.heap.size + 1,q,none⟩:Addr)).block < base:=fun q=>by have:=h.hb;have:=h.hp;show w0.heap.size + 1 < base;omega
 exact ⟨hok,U,((((((((((h.pk.setLow (hb 0) c0).setLow (hb 1) c1).setLow (hb 2) c2).setLow (hb 3) c3).setLow (hb 4) c4).setLow (hb 5) c5).setLow (hb 6) c6).setLow (hb 7) c7).setLow (hb 8) c8).mono (by have:=h.hb;have:=h.hp;omega))⟩
end
theorem zja {o:List Fr} {v:Nat → Int} {a:Nat} {f:Fr} (hf:o[a]? = some f) (hn:∀ j g,j < a → o[j]? = some g → eqV g.v v = false) (he:eqV f.v v = true) :
   (∀ k B,k < a → (o.map (·.v))[k]? = some B → eqV B v = false) ∧ ∃ B,(o.map (·.v))[a]? = some B ∧ eqV B v = true:=by
 refine ⟨fun k B hk hB=>?_,f.v,by simp [hf],he⟩
 rw [List.getElem?_map] at hB
 cases hg:o[k]? with
 | none=>rw [hg] at hB;cases hB
 | some g=>rw [hg] at hB;cases hB;exact hn k g hk hg
theorem zok (v:Nat → Int):∀ o:List Fr,(∃ (a:Nat) (f:Fr),o[a]? = some f ∧ (∀ (j:Nat) (g:Fr),j < a → o[j]? = some g → eqV g.v v = false) ∧ eqV f.v v = true) ∨ (∀ (j:Nat) (g:Fr),j < o.length → o[j]? = some g → eqV g.v v = false)
 | []=>.inr fun j g hj=>absurd hj (by simp)
 | q :: o=>by
   cases hq:eqV q.v v with
   | true=>exact .inl ⟨0,q,rfl,fun j g hj=>absurd hj (by omega),hq⟩
   | false =>
     rcases zok v o with ⟨a,f,h1,h2,h3⟩ | h
     · refine .inl ⟨a + 1,f,by simpa using h1,fun j g hj hg=>?_,h3⟩
       cases j with
       | zero=>simp at hg;subst hg;exact hq
       | succ j=>exact h2 j g (by omega) (by simpa using hg)
     · refine .inr fun j g hj hg=>?_
       cases j with
       | zero=>simp at hg;subst hg;exact hq
       | succ j=>exact h j g (by simpa using hj) (by simpa using hg)
theorem zh5 {o:List Fr} {v:Nat → Int} (h:∀ j g,j < o.length → o[j]? = some g → eqV g.v v = false):∀ B ∈ o.map (·.v),eqV B v = false:=by
 intro B hB
 obtain ⟨g,hg,rfl⟩:=List.mem_map.1 hB
 obtain ⟨j,hj⟩:=List.getElem?_of_mem hg
 exact h j g (posA hj) hj
theorem zut {o:List Fr} {a:Nat} {f f':Fr} (hf:o[a]? = some f) (hv:f'.v = f.v):(o.set a f').map (·.v) = o.map (·.v):=by
 rw [List.map_set,hv]
 refine List.ext_getElem? fun i=>?_
 by_cases e:a = i
 · subst e
   have hl:=posA hf
   rw [List.getElem?_set_self (by simpa using hl),List.getElem?_map,hf];rfl
 · rw [List.getElem?_set_ne e]
end Go.Proofs.YthnllikalobmeaaGreat
