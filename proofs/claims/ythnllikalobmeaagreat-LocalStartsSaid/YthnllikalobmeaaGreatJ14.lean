/- Joined: Lies, SizeB, RefHas, Part. -/
import Derived.Test.YthnllikalobmeaaGreatJ12
import Derived.Test.YthnllikalobmeaaGreatJ13
import Derived.Test.YthnllikalobmeaaGreatJ01
import Derived.Deep.CutBlock
import Derived.Deep.DeepCutAuto
import Derived.Test.YthnllikalobmeaaGreatJ06
import Derived.Deep.RegionHeld3
import Derived.Deep.DrawnRows
namespace Go.Proofs.YthnllikalobmeaaGreat
set_option linter.unusedVariables false
set_option linter.unusedSimpArgs false
set_option maxRecDepth 100000
set_option maxHeartbeats 8000000
open Go.RowKit
theorem y14h {p:Prop} (h:p):Hid p:=Lib.hid h
def pc (p:Pr) (v:Value):List Value:=[.int .i64 p.op,.string p.text,.int .i64 p.n,.complex .f64 p.x p.y,v]
def tc (p:Pr) (v:Value):List Value:=[.int .i64 p.op,.string p.text,.int .i64 p.n,.float .f64 p.x,.float .f64 p.y,v]
inductive Lies (sz:Nat) (c:Pr → Value → List Value) (S:Nat → Prop) (w:World):Pr → Value → Prop where
 | mk (op:Int) (t:ByteArray) (n:Int) (x y:Nat) (kids:List Pr) (oa:Option Addr) (cap b o:Nat) (V:Nat → Value) (ht:t.size ≤ maxLen) (hl:kids.length ≤ cap) (hc:cap ≤ maxLen)
     (hn:0 < kids.length → oa = some ⟨b,o,none⟩ ∧ S b)
     (hcell:∀ i p,kids[i]? = some p → ∀ j u,(c p (V i))[j]? = some u → w.cell? ⟨b,o + i * sz + j,none⟩ = some u)
     (hrec:∀ i p,kids[i]? = some p → Lies sz c S w p (V i)):Lies sz c S w (.node op t n x y kids) (.slice oa kids.length cap)
theorem zcm {l:List Pr} {i:Nat} {p:Pr} (h:l[i]? = some p):i < l.length:=(List.getElem?_eq_some_iff.1 h).1
theorem Lies.mono {sz:Nat} {c:Pr → Value → List Value} {S S':Nat → Prop} {w w':World} {p:Pr} {v:Value} (h:Lies sz c S w p v)
   (hw:∀ b o,S b → w'.cell? ⟨b,o,none⟩ = w.cell? ⟨b,o,none⟩) (hS:∀ b,S b → S' b):Lies sz c S' w' p v:=by
 induction h with
 | mk op t n x y kids oa cap b o V ht hl hc hn hcell hrec ih =>
   refine .mk op t n x y kids oa cap b o V ht hl hc (fun h=>⟨(hn h).1,hS _ (hn h).2⟩) (fun i p hp j u hu=>?_) fun i p hp=>ih i p hp
   rw [hw _ _ (hn (by have:=zcm hp;omega)).2]
   exact hcell i p hp j u hu
abbrev LP (w:World) (p:Pr) (v:Value):Prop:=Lies 5 pc (fun b=>b < w.heap.size) w p v
abbrev LT (w:World) (p:Pr) (v:Value):Prop:=Lies 6 tc (fun b=>b < w.heap.size) w p v
theorem Lies.later {sz:Nat} {c:Pr → Value → List Value} {w w':World} {p:Pr} {v:Value} {B:Nat} (h:Lies sz c (fun b=>b < w.heap.size) w p v) (hb:Below B w w') (hB:w.heap.size ≤ B):Lies sz c (fun b=>b < w'.heap.size) w' p v :=
 h.mono (fun b o hS=>hb.cell (p:=⟨b,o,none⟩) (Nat.lt_of_lt_of_le hS hB)) fun _ hS=>Nat.lt_of_lt_of_le hS hb.size
theorem Lies.atAlloc {sz:Nat} {c:Pr → Value → List Value} {w:World} {p:Pr} {v:Value} (h:Lies sz c (fun b=>b < w.heap.size) w p v) (ob:Obj):Lies sz c (fun b=>b < (w.alloc ob).heap.size) (w.alloc ob) p v :=
 h.later ((Below.refl _ _).alloc (Nat.le_refl _) _) (Nat.le_refl _)
theorem za9 {sz:Nat} {c:Pr → Value → List Value} {S:Nat → Prop} {w:World} {p:Pr} {v:Value} (h:Lies sz c S w p v) :
   ∃ (oa:Option Addr) (cap b o:Nat) (V:Nat → Value),v = .slice oa p.kids.length cap ∧ p.text.size ≤ maxLen ∧ p.kids.length ≤ cap ∧ cap ≤ maxLen ∧ (0 < p.kids.length → oa = some ⟨b,o,none⟩ ∧ S b) ∧
     (∀ i q,p.kids[i]? = some q → ∀ j u,(c q (V i))[j]? = some u → w.cell? ⟨b,o + i * sz + j,none⟩ = some u) ∧ (∀ i q,p.kids[i]? = some q → Lies sz c S w q (V i)):=by
 cases h with
 | mk op t n x y kids oa cap b o V ht hl hc hn hcell hrec=>exact ⟨oa,cap,b,o,V,rfl,ht,hl,hc,hn,hcell,hrec⟩
theorem zg5 {sz:Nat} {c:Pr → Value → List Value} {S:Nat → Prop} {w:World} {op:Int} {t:ByteArray} {n:Int} {x y:Nat} (ht:t.size ≤ maxLen):Lies sz c S w (.node op t n x y []) (.slice none 0 0) :=
 .mk op t n x y [] none 0 0 0 (fun _=>.nilFunc) ht (Nat.le_refl _) (Nat.zero_le _) (fun h=>absurd h (Nat.lt_irrefl _)) (fun i p h=>by simp at h) (fun i p h=>by simp at h)
theorem zar {sz:Nat} {c:Pr → Value → List Value} {S:Nat → Prop} {w:World} {p:Pr} {v:Value} (h:Lies sz c S w p v):v.oneCell' = true:=by
 obtain ⟨_,_,_,_,_,rfl,_⟩:=za9 h;rfl
theorem zu6 {q:Pr} {v:Value} (h:v.oneCell' = true):∀ u ∈ pc q v,u.oneCell' = true:=by
 intro u hu
 simp only [pc,List.mem_cons,List.not_mem_nil,or_false] at hu
 rcases hu with rfl | rfl | rfl | rfl | rfl
 · rfl
 · rfl
 · rfl
 · rfl
 · exact h
theorem zcd {w:World} {q:Pr} {v:Value} {b o:Nat} (h:∀ j u,(pc q v)[j]? = some u → w.cell? ⟨b,o + j,none⟩ = some u) :
   w.cell? ⟨b,o,none⟩ = some (.int .i64 q.op) ∧ w.cell? ⟨b,o + 1,none⟩ = some (.string q.text) ∧ w.cell? ⟨b,o + 2,none⟩ = some (.int .i64 q.n) ∧ w.cell? ⟨b,o + 3,none⟩ = some (.complex .f64 q.x q.y) ∧ w.cell? ⟨b,o + 4,none⟩ = some v :=
 ⟨h 0 _ rfl,h 1 _ rfl,h 2 _ rfl,h 3 _ rfl,h 4 _ rfl⟩
theorem zp2 {w:World} {q:Pr} {v:Value} {b o:Nat} (h:∀ j u,(tc q v)[j]? = some u → w.cell? ⟨b,o + j,none⟩ = some u) :
   w.cell? ⟨b,o,none⟩ = some (.int .i64 q.op) ∧ w.cell? ⟨b,o + 1,none⟩ = some (.string q.text) ∧ w.cell? ⟨b,o + 2,none⟩ = some (.int .i64 q.n) ∧ w.cell? ⟨b,o + 3,none⟩ = some (.float .f64 q.x) ∧ w.cell? ⟨b,o + 4,none⟩ = some (.float .f64 q.y) ∧ w.cell? ⟨b,o + 5,none⟩ = some v :=
 ⟨h 0 _ rfl,h 1 _ rfl,h 2 _ rfl,h 3 _ rfl,h 4 _ rfl,h 5 _ rfl⟩
def zto (l:List Pr) (len:Nat) (f:List Pr → Nat) (w0:World) (n i:Value) (wr:World):Prop :=
 ∃ (k s:Nat),k ≤ len ∧ i = .int .i64 k ∧ n = .int .i64 s ∧ s ≤ 1000 ∧ Hid (s = f (l.take k)) ∧ Below w0.heap.size w0 wr
theorem zal {sz:Nat} {c:Pr → Value → List Value} {S:Nat → Prop} {w:World} {p:Pr} {v:Value} (h:Lies sz c S w p v):∃ oa cap,v = .slice oa p.kids.length cap:=by
 obtain ⟨oa,cap,_,_,_,rfl,_⟩:=za9 h;exact ⟨oa,cap,rfl⟩
def cntB (i:It) (l:List Pr):Nat:=(l.filter (Pr.hasB i)).length
theorem z0e (i:It) (l:List Pr):cntB i l ≤ l.length:=List.length_filter_le _ _
theorem zv7 (i:It) {l:List Pr} {k:Nat} {q:Pr} (hq:l[k]? = some q):cntB i (l.take (k + 1)) = cntB i (l.take k) + (if Pr.hasB i q = true then 1 else 0):=by
 rw [Pr.take_one hq];unfold cntB;rw [List.filter_append]
 by_cases h:Pr.hasB i q = true <;> simp [List.filter_cons,h]
theorem zyy (i:It) (l:List Pr):Pr.hasAll i l = decide (cntB i l = l.length):=by
 induction l with
 | nil=>simp [Pr.hasAll,cntB]
 | cons a l ih =>
   have hl:=z0e i l
   unfold cntB at *
   rw [Pr.hasAll,ih,List.filter_cons]
   cases h:Pr.hasB i a
   · simp;omega
   · simp
theorem zyz (i:It) (l:List Pr):Pr.hasAny i l = decide (0 < cntB i l):=by
 induction l with
 | nil=>simp [Pr.hasAny,cntB]
 | cons a l ih =>
   unfold cntB at *
   rw [Pr.hasAny,ih,List.filter_cons]
   cases h:Pr.hasB i a <;> simp
def zz8 (i:It) (l:List Pr) (len:Nat) (w0:World) (many j:Value) (wr:World):Prop :=
 ∃ (k m:Nat),k ≤ len ∧ j = .int .i64 k ∧ many = .int .i64 m ∧ m ≤ k ∧ Hid (m = cntB i (l.take k)) ∧ Below w0.heap.size w0 wr
theorem zpn (i:It) (r c st:Int) (d:Bool) (hid:i.id.size ≤ maxLen) (p:Pr):∀ (v:Value) (w:World),LP w p v → p.size ≤ 1000 →
   Calls Tryz.prog 92 #[.agg #[.int .i64 p.op,.string p.text,.int .i64 p.n,.complex .f64 p.x p.y,v],.agg #[.string i.id,.int .i64 r,.int .i64 c,.int .i64 st,.string i.kd,.int .i64 i.num,.complex .f64 i.ax i.ay,.bool d]] w fun e w'=>e = .returned (.bool (p.hasB i)) ∧ Below w.heap.size w w':=by
 induction p using Pr.ind with
 | h op t n x y kids ih =>
   intro v w hL hsz
   obtain ⟨oa,cap,b,o,V,rfl,ht,hl,hc,hn,hcell,hrec⟩:=za9 hL
   simp only [Pr.kids_node,Pr.text_node,Pr.op_node,Pr.n_node,Pr.x_node,Pr.y_node,Pr.size] at *
   unfold maxLen at hc
   have h1000:=Pr.len_le_sizes kids
   have HC:=y14h hcell
   have HR:=y14h hrec
   have HN:=y14h hn
   have HI:=y14h ih
   have HT:=y14h ht
   have HID:=y14h hid
   clear hL hcell hrec hn ih ht hid
   have HAll:=y14h (zyy i kids)
   have HAny:=y14h (zyz i kids)
   generalize hlen:kids.length = len at *
   have HLEN:=y14h hlen
   clear hlen
   generalize hres:Pr.hasB i (.node op t n x y kids) = res
   have HRES:=y14h hres
   clear hres
   go_enter Tryz.func92,Tryz.ntmps92
   go_wp2_with fail
   go_loopw [5,6] (fun many j wr=>zz8 i kids len ((w.alloc (.cells #[.int .i64 op,.string t,.int .i64 n,.complex .f64 x y,.slice oa len cap] 40)).alloc (.cells #[.string i.id,.int .i64 r,.int .i64 c,.int .i64 st,.string i.kd,.int .i64 i.num,.complex .f64 i.ax i.ay,.bool d] 69)) many j wr) (fun _ j _=>len - (intOf j).toNat)
   case atStart=>exact ⟨0,0,Nat.zero_le _,rfl,rfl,Nat.le_refl _,by simp [Hid,cntB],Below.refl _ _⟩
   case round =>
     obtain ⟨k,m,hk,rfl,rfl,hm,HM,hb⟩:=hrel
     have G1:=y14h (((Has.new w #[.int .i64 op,.string t,.int .i64 n,.complex .f64 x y,.slice oa len cap] 40).alloc (.cells #[.string i.id,.int .i64 r,.int .i64 c,.int .i64 st,.string i.kd,.int .i64 i.num,.complex .f64 i.ax i.ay,.bool d] 69)).below hb (by simp;omega))
     have G2:=y14h ((Own.newAt (w.alloc (.cells #[.int .i64 op,.string t,.int .i64 n,.complex .f64 x y,.slice oa len cap] 40)) #[.string i.id,.int .i64 r,.int .i64 c,.int .i64 st,.string i.kd,.int .i64 i.num,.complex .f64 i.ax i.ay,.bool d] 69 (b:=w.heap.size + 1) (by simp)).has.below hb (by simp))
     by_cases hlt:k < len
     · obtain ⟨q,hq⟩:∃ q,kids[k]? = some q:=⟨_,List.getElem?_eq_getElem (by rw [HLEN.out];exact hlt)⟩
       obtain ⟨rfl,hB⟩:=HN.out (by omega)
       obtain ⟨oq,cq,hV⟩:=zal (HR.out k q hq)
       have hbw:Below w.heap.size w wr:=zai (zai hb)
       obtain ⟨c0,c1,c2,c3,c4⟩:=zcd (w:=wr) (fun j u hu=>(hbw.cell (p:=⟨b,o + k * 5 + j,none⟩) hB).trans (HC.out k q hq j u hu))
       have L0:=(HR.out k q hq).later hbw (Nat.le_refl _)
       rw [hV] at c4 L0
       have hqs:=Pr.size_mem (List.mem_of_getElem? hq)
       have CC:=fun dd os=>HI.out q (List.mem_of_getElem? hq) (.slice oq q.kids.length cq) (Sort.grow (redrawn wr dd) os) (L0.later (below_regrown _ _ _) (Nat.le_refl _)) (by omega)
       have r0:=fun dd os=>cell_regrown c0 dd os
       have r1:=fun dd os=>cell_regrown c1 dd os
       have r2:=fun dd os=>cell_regrown c2 dd os
       have r3:=fun dd os=>cell_regrown c3 dd os
       have r4:=fun dd os=>cell_regrown c4 dd os
       have LA:=fun dd os o=>G1.out.regrown dd os o
       have LB:=fun dd os o=>G2.out.regrown dd os o
       have l1:=G1.out.cell
       have HB:=y14h hb
       have h9:=zv7 i hq
       cases hs:Pr.hasB i q
       · rw [hs] at CC h9
         have m3:=fun dd os=>y14h (Calls.regrown_of (CC dd os))
         have HM1:=y14h (show m = cntB i (kids.take (k + 1)) by rw [h9,HM.out];rfl)
         clear hb hV L0 hs hq CC hbw h9
         go_wp2_with fail
         refine wp_region_quiet_below (by kernel_rfl) (by kernel_rfl) ?_
         repeat (first | go_big_quiet_step ((with_reducible exact (m3 _ _).out)) | quiet_step (with_reducible exact (m3 _ _).out))
         refine wpQuiet_nil ?_
         intro w7 hw'
         have hb':=y14h (zac hw')
         clear hw'
         clear m3 r0 r1 r2 r3 r4 LA LB
         go_wp2_with fail
         go_roundw
         case rel=>exact ⟨k + 1,m,by omega,by go_num,by go_num,by omega,HM1.out,HB.out.trans (hb'.out.mono HB.out.size)⟩
         case measure=>simp [intOf];omega
       · rw [hs] at CC h9
         have m3:=fun dd os=>y14h (Calls.regrown_of (CC dd os))
         have HM1:=y14h (show m + 1 = cntB i (kids.take (k + 1)) by rw [h9,HM.out];rfl)
         clear hb hV L0 hs hq CC hbw h9
         go_wp2_with fail
         refine wp_region_quiet_below (by kernel_rfl) (by kernel_rfl) ?_
         repeat (first | go_big_quiet_step ((with_reducible exact (m3 _ _).out)) | quiet_step (with_reducible exact (m3 _ _).out))
         refine wpQuiet_nil ?_
         intro w7 hw'
         have hb':=y14h (zac hw')
         clear hw'
         clear m3 r0 r1 r2 r3 r4 LA LB
         go_wp2_with fail
         go_roundw
         case rel=>exact ⟨k + 1,m + 1,by omega,by go_num,by go_num,by omega,HM1.out,HB.out.trans (hb'.out.mono HB.out.size)⟩
         case measure=>simp [intOf];omega
     · have e:k = len:=by omega
       subst e
       have hm9:=HM.out
       rw [Pr.take_all kids (by rw [HLEN.out];omega)] at hm9
       have HM9:=y14h hm9
       have HB:=y14h hb
       clear hm9 HM
       have hbe:=HB.out
       have l1:=G1.out.cell
       have l2:=G2.out.cell
       have z1:=G1.out.lt
       have z2:=G2.out.lt
       have BE:=y14h (zai (zai hbe))
       clear hbe
       have hop:op = 1 ∨ op = 2 ∨ op = 3 ∨ op = 4 ∨ op = 5 ∨ op = 6 ∨ op = 7 ∨ op = 8 ∨ op = 9 ∨ op = 10 ∨ (op ≠ 1 ∧ op ≠ 2 ∧ op ≠ 3 ∧ op ≠ 4 ∧ op ≠ 5 ∧ op ≠ 6 ∧ op ≠ 7 ∧ op ≠ 8 ∧ op ≠ 9 ∧ op ≠ 10):=by omega
       rcases hop with rfl | rfl | rfl | rfl | rfl | rfl | rfl | rfl | rfl | rfl | ⟨n1,n2,n3,n4,n5,n6,n7,n8,n9,n10⟩
       · have E:=y14h (show res = true by rw [← HRES.out];simp [Pr.hasB])
         clear hb
         go_wp2_with fail
         all_goals
           go_ret
           exact ⟨zaa (by rw [E.out];first | done | (rw [Bool.eq_iff_iff];simp;done) | (simp_all;done)),BE.out⟩
       · have E:=y14h (show res = false by rw [← HRES.out];simp [Pr.hasB])
         clear hb
         go_wp2_with fail
         all_goals
           go_ret
           exact ⟨zaa (by rw [E.out];first | done | (rw [Bool.eq_iff_iff];simp;done) | (simp_all;done)),BE.out⟩
       · have E:=y14h (show res = decide (i.kd.toList = t.toList) by rw [← HRES.out];simp [Pr.hasB])
         clear hb
         go_wp2_with fail
         all_goals
           go_ret
           exact ⟨zaa (by rw [E.out];first | done | (rw [Bool.eq_iff_iff];simp;done) | (simp_all;done)),BE.out⟩
       · have E:=y14h (show res = begB i.id t by rw [← HRES.out];simp [Pr.hasB])
         have C:=fun w=>y14h (zn0 i.id t w HID.out HT.out)
         clear hb
         go_wp2_with (go_at_call 138;refine (C _).out.mono ?_;rintro e w' ⟨rfl,hb'⟩)
         go_ret
         exact ⟨zaa E.out.symm,BE.out.trans (hb'.mono BE.out.size)⟩
       · have E:=y14h (show res = decide (i.num < n) by rw [← HRES.out];simp [Pr.hasB])
         clear hb
         go_wp2_with fail
         all_goals
           go_ret
           exact ⟨zaa (by rw [E.out];first | done | (rw [Bool.eq_iff_iff];simp;done) | (simp_all;done)),BE.out⟩
       · have E:=y14h (show res = decide (n ≤ i.num) by rw [← HRES.out];simp [Pr.hasB])
         clear hb
         go_wp2_with fail
         all_goals
           go_ret
           exact ⟨zaa (by rw [E.out];first | done | (rw [Bool.eq_iff_iff];simp;done) | (simp_all;done)),BE.out⟩
       · have E:=y14h (show res = (decide (0 ≤ farV i.ax i.ay x y) && decide (farV i.ax i.ay x y ≤ n)) by rw [← HRES.out];simp [Pr.hasB,zit])
         have C:=fun w=>y14h (zpm i.ax i.ay x y w)
         generalize farV i.ax i.ay x y = fv at *
         clear hb
         go_wp2_with (go_at_call 139;refine (C _).out.mono ?_;rintro e w' ⟨rfl,rfl⟩)
         all_goals
           go_ret
           exact ⟨zaa (by rw [E.out];first | (simp_all;done) | (simp_all;omega)),BE.out⟩
       · have E:=y14h (show res = decide (m = k) by rw [← HRES.out,HM9.out,← HAll.out];simp [Pr.hasB])
         clear hb
         go_wp2_with fail
         all_goals
           go_ret
           exact ⟨zaa (by rw [E.out];try (rw [Bool.eq_iff_iff];simp);try omega),BE.out⟩
       · have E:=y14h (show res = decide (0 < m) by rw [← HRES.out,HM9.out,← HAny.out];simp [Pr.hasB])
         clear hb
         go_wp2_with fail
         all_goals
           go_ret
           exact ⟨zaa (by rw [E.out];try (rw [Bool.eq_iff_iff];simp);try omega),BE.out⟩
       · by_cases h0:k = 0
         · subst h0
           have E:=y14h (show res = false by rw [← HRES.out,List.length_eq_zero_iff.1 HLEN.out];simp [Pr.hasB,Pr.hasNot])
           clear hb
           go_wp2_with fail
           go_ret
           exact ⟨zaa E.out.symm,BE.out⟩
         · have h0':0 < k:=by omega
           clear l1
           obtain ⟨q,hq⟩:∃ q,kids[0]? = some q:=⟨_,List.getElem?_eq_getElem (by rw [HLEN.out];omega)⟩
           obtain ⟨rfl,hB⟩:=HN.out (by omega)
           obtain ⟨oq,cq,hV⟩:=zal (HR.out 0 q hq)
           have hbw:Below w.heap.size w wr:=zai (zai hb)
           obtain ⟨c0,c1,c2,c3,c4⟩:=zcd (w:=wr) (fun j u hu=>(hbw.cell (p:=⟨b,o + 0 * 5 + j,none⟩) hB).trans (HC.out 0 q hq j u hu))
           have L0:=(HR.out 0 q hq).later hbw (Nat.le_refl _)
           rw [hV] at c4 L0
           have hqs:=Pr.size_mem (List.mem_of_getElem? hq)
           have CC:=fun dd os=>HI.out q (List.mem_of_getElem? hq) (.slice oq q.kids.length cq) (Sort.grow (redrawn wr dd) os) (L0.later (below_regrown _ _ _) (Nat.le_refl _)) (by omega)
           have r0:=fun dd os=>cell_regrown c0 dd os
           have r1:=fun dd os=>cell_regrown c1 dd os
           have r2:=fun dd os=>cell_regrown c2 dd os
           have r3:=fun dd os=>cell_regrown c3 dd os
           have r4:=fun dd os=>cell_regrown c4 dd os
           have LA:=fun dd os o=>G1.out.regrown dd os o
           have LB:=fun dd os o=>G2.out.regrown dd os o
           have l1:=G1.out.cell
           have E:=y14h (show res = !(Pr.hasB i q) by
             rw [← HRES.out]
             match kids,hq with
             | a :: l,hq=>simp at hq;subst hq;simp [Pr.hasB,Pr.hasNot])
           have m3:=fun dd os=>y14h (Calls.regrown_of (CC dd os))
           have hk0:((k:Int) == 0) = false:=by simp;omega
           generalize Pr.hasB i q = rq at *
           clear hb hV L0 hq CC hbw
           simp only [Nat.zero_mul,Nat.add_zero] at r0 r1 r2 r3 r4
           go_wp2_with fail
           refine wp_region_quiet_below (by kernel_rfl) (by kernel_rfl) ?_
           repeat (first | go_big_quiet_step ((with_reducible exact (m3 _ _).out)) | quiet_step (with_reducible exact (m3 _ _).out))
           refine wpQuiet_nil ?_
           intro w7 hw'
           have hb':=y14h (zac hw')
           clear hw' m3 r0 r1 r2 r3 r4 LA LB
           go_wp2_with fail
           go_ret
           exact ⟨zaa E.out.symm,BE.out.trans (hb'.out.mono BE.out.size)⟩
       · have E:=y14h (show res = false by rw [← HRES.out];simp [Pr.hasB,n1,n3,n4,n5,n6,n7,n8,n9,n10])
         clear hb
         go_wp2_with fail
         go_ret
         exact ⟨zaa E.out.symm,BE.out⟩
def inW (n a b:Int):Bool:=decide (a ≤ n) && decide (n ≤ b)
theorem zct (n a b:Int) (w:World) :
   Calls Tryz.prog 156 #[.int .i64 n,.int .i64 a,.int .i64 b] w fun e w'=>e = .returned (.bool (inW n a b)) ∧ w = w':=by
 unfold inW
 by_cases h:a ≤ n <;> by_cases h':n ≤ b <;>
 ( go_enter Tryz.func156,Tryz.ntmps156
   go_wp2
   go_ret
   exact ⟨zaa (by simp [h,h']),rfl⟩ )
theorem zvt:txtB ⟨#[]⟩ = true:=by decide
theorem zlw (s:ByteArray) (w:World) :
   Calls Tryz.prog 155 #[.string s] w fun e w'=>e = .returned (.bool (txtB s)) ∧ w = w':=by
 have H:=y14h (ze6 s w)
 by_cases h:s.size = 0
 · have e:=zhr s h
   subst e
   rw [zvt]
   go_enter Tryz.func155,Tryz.ntmps155
   go_wp2
   go_ret
   exact ⟨rfl,rfl⟩
 · have e:zay s = txtB s:=by simp [zay];omega
   rw [e] at H
   clear e
   have h1:s.toList ≠ []:=by
     intro hz
     exact h (by have:=congrArg List.length hz;rw [zji] at this;simpa using this)
   have h2:s.toList.isEmpty = false:=by rw [List.isEmpty_eq_false_iff];exact h1
   generalize txtB s = r at *
   clear h
   go_enter Tryz.func155,Tryz.ntmps155
   go_wp2_with (go_at_call 97;refine (H.out).mono ?_;rintro e w' ⟨rfl,rfl⟩)
   go_ret
   exact ⟨rfl,rfl⟩
theorem zws (k:Nat):((k:Int) == 0) = decide (k = 0):=by
 rw [Bool.eq_iff_iff];simp
theorem zrh (k:Nat):((k:Int) == 1) = decide (k = 1):=by
 rw [Bool.eq_iff_iff];simp;omega
theorem zr1 (op:Int) (t:ByteArray) (n:Int) (x y:Nat) (oa:Option Addr) (len cap:Nat) (w:World) :
   Calls Tryz.prog 157 #[.agg #[.int .i64 op,.string t,.int .i64 n,.complex .f64 x y,.slice oa len cap]] w fun e w'=>e = .returned (.bool (Pr.bareB t n x y len)) ∧ Below w.heap.size w w':=by
 have f1:∀ x y,(FloatKind.f64.format.order x y == some .eq) = feq x y:=fun _ _=>rfl
 go_enter Tryz.func157,Tryz.ntmps157
 go_wp2
 all_goals
   go_ret
   exact ⟨zaa (by simp_all [Pr.bareB,zws]),(Below.refl _ _).alloc (Nat.le_refl _) _⟩
attribute [local go_sem ↓] Go.wp_at_zero Go.wp_at_succ
theorem zlv (op:Int) (t:ByteArray) (n:Int) (x y:Nat) (oa:Option Addr) (len cap:Nat) (w:World) :
   Calls Tryz.prog 120 #[.agg #[.int .i64 op,.string t,.int .i64 n,.complex .f64 x y,.slice oa len cap]] w fun e w'=>e = .returned (.bool (Pr.partB op t n x y len)) ∧ Below w.heap.size w w':=by
 have HB:=fun op t n x y oa len cap w=>y14h (zr1 op t n x y oa len cap w)
 have HT:=fun w=>y14h (zlw t w)
 have HW:=fun a b w=>y14h (zct n a b w)
 have HM:=fun w=>y14h (zc2 x y w)
 have hop:op = 1 ∨ op = 2 ∨ op = 3 ∨ op = 4 ∨ op = 5 ∨ op = 6 ∨ op = 7 ∨ op = 8 ∨ op = 9 ∨ op = 10 ∨ (op ≠ 1 ∧ op ≠ 2 ∧ op ≠ 3 ∧ op ≠ 4 ∧ op ≠ 5 ∧ op ≠ 6 ∧ op ≠ 7 ∧ op ≠ 8 ∧ op ≠ 9 ∧ op ≠ 10):=by omega
 rcases hop with rfl | rfl | rfl | rfl | rfl | rfl | rfl | rfl | rfl | rfl | ⟨n1,n2,n3,n4,n5,n6,n7,n8,n9,n10⟩
 · have e:Pr.partB 1 t n x y len = Pr.bareB t n x y len:=by simp [Pr.partB,inW]
   rw [e]
   clear e
   go_enter Tryz.func120,Tryz.ntmps120
   go_wp2_with fail
   go_region_held3 (fun w'=>w'.cell? ⟨w.heap.size,0,none⟩ = some (.int .i64 1) ∧ w'.cell? ⟨w.heap.size,1,none⟩ = some (.string t) ∧ w'.cell? ⟨w.heap.size,2,none⟩ = some (.int .i64 n) ∧ w'.cell? ⟨w.heap.size,3,none⟩ = some (.complex .f64 x y) ∧ w'.cell? ⟨w.heap.size,4,none⟩ = some (.slice oa len cap)) (go_keep) (fail)
   go_wp2_with (first
     | (go_at_call 155;refine (HT _).out.mono ?_;rintro e w' ⟨rfl,rfl⟩)
     | (go_at_call 156;refine (HW _ _ _).out.mono ?_;rintro e w' ⟨rfl,rfl⟩)
     | (go_at_call 150;refine (HM _).out.mono ?_;rintro e w' ⟨rfl,rfl⟩)
     | (go_at_call 157;refine (HB _ _ _ _ _ _ _ _ _).out.mono ?_;rintro e w' ⟨rfl,hb⟩))
   all_goals
     go_ret
     refine ⟨zaa (by simp_all),?_⟩
     clear HB HT HW HM
     first
       | (refine zb8 ?_ hb ?_
          · repeat (first | exact Below.refl _ _ | (refine Below.setCell ?_ (by simp) _) | (refine Below.alloc ?_ (by simp) _) | refine Below.drew ?_)
          · (simp;try omega))
       | (repeat (first | exact Below.refl _ _ | (refine Below.setCell ?_ (by simp) _) | (refine Below.alloc ?_ (by simp) _) | refine Below.drew ?_))
 · have e:Pr.partB 2 t n x y len = Pr.bareB t n x y len:=by simp [Pr.partB,inW]
   rw [e]
   clear e
   go_enter Tryz.func120,Tryz.ntmps120
   go_wp2_with fail
   go_region_held3 (fun w'=>w'.cell? ⟨w.heap.size,0,none⟩ = some (.int .i64 2) ∧ w'.cell? ⟨w.heap.size,1,none⟩ = some (.string t) ∧ w'.cell? ⟨w.heap.size,2,none⟩ = some (.int .i64 n) ∧ w'.cell? ⟨w.heap.size,3,none⟩ = some (.complex .f64 x y) ∧ w'.cell? ⟨w.heap.size,4,none⟩ = some (.slice oa len cap)) (go_keep) (fail)
   go_wp2_with (first
     | (go_at_call 155;refine (HT _).out.mono ?_;rintro e w' ⟨rfl,rfl⟩)
     | (go_at_call 156;refine (HW _ _ _).out.mono ?_;rintro e w' ⟨rfl,rfl⟩)
     | (go_at_call 150;refine (HM _).out.mono ?_;rintro e w' ⟨rfl,rfl⟩)
     | (go_at_call 157;refine (HB _ _ _ _ _ _ _ _ _).out.mono ?_;rintro e w' ⟨rfl,hb⟩))
   all_goals
     go_ret
     refine ⟨zaa (by simp_all),?_⟩
     clear HB HT HW HM
     first
       | (refine zb8 ?_ hb ?_
          · repeat (first | exact Below.refl _ _ | (refine Below.setCell ?_ (by simp) _) | (refine Below.alloc ?_ (by simp) _) | refine Below.drew ?_)
          · (simp;try omega))
       | (repeat (first | exact Below.refl _ _ | (refine Below.setCell ?_ (by simp) _) | (refine Below.alloc ?_ (by simp) _) | refine Below.drew ?_))
 · have e:Pr.partB 3 t n x y len = (txtB t && Pr.bareB ⟨#[]⟩ n x y len):=by simp [Pr.partB,inW]
   rw [e]
   clear e
   generalize txtB t = r1 at *
   go_enter Tryz.func120,Tryz.ntmps120
   go_wp2_with fail
   go_region_held3 (fun w'=>w'.cell? ⟨w.heap.size,0,none⟩ = some (.int .i64 3) ∧ w'.cell? ⟨w.heap.size,1,none⟩ = some (.string t) ∧ w'.cell? ⟨w.heap.size,2,none⟩ = some (.int .i64 n) ∧ w'.cell? ⟨w.heap.size,3,none⟩ = some (.complex .f64 x y) ∧ w'.cell? ⟨w.heap.size,4,none⟩ = some (.slice oa len cap)) (go_keep) (fail)
   go_wp2_with (first
     | (go_at_call 155;refine (HT _).out.mono ?_;rintro e w' ⟨rfl,rfl⟩)
     | (go_at_call 156;refine (HW _ _ _).out.mono ?_;rintro e w' ⟨rfl,rfl⟩)
     | (go_at_call 150;refine (HM _).out.mono ?_;rintro e w' ⟨rfl,rfl⟩)
     | (go_at_call 157;refine (HB _ _ _ _ _ _ _ _ _).out.mono ?_;rintro e w' ⟨rfl,hb⟩))
   all_goals
     go_ret
     refine ⟨zaa (by simp_all),?_⟩
     clear HB HT HW HM
     first
       | (refine zb8 ?_ hb ?_
          · repeat (first | exact Below.refl _ _ | (refine Below.setCell ?_ (by simp) _) | (refine Below.alloc ?_ (by simp) _) | refine Below.drew ?_)
          · (simp;try omega))
       | (repeat (first | exact Below.refl _ _ | (refine Below.setCell ?_ (by simp) _) | (refine Below.alloc ?_ (by simp) _) | refine Below.drew ?_))
 · have e:Pr.partB 4 t n x y len = (txtB t && Pr.bareB ⟨#[]⟩ n x y len):=by simp [Pr.partB,inW]
   rw [e]
   clear e
   generalize txtB t = r1 at *
   go_enter Tryz.func120,Tryz.ntmps120
   go_wp2_with fail
   go_region_held3 (fun w'=>w'.cell? ⟨w.heap.size,0,none⟩ = some (.int .i64 4) ∧ w'.cell? ⟨w.heap.size,1,none⟩ = some (.string t) ∧ w'.cell? ⟨w.heap.size,2,none⟩ = some (.int .i64 n) ∧ w'.cell? ⟨w.heap.size,3,none⟩ = some (.complex .f64 x y) ∧ w'.cell? ⟨w.heap.size,4,none⟩ = some (.slice oa len cap)) (go_keep) (fail)
   go_wp2_with (first
     | (go_at_call 155;refine (HT _).out.mono ?_;rintro e w' ⟨rfl,rfl⟩)
     | (go_at_call 156;refine (HW _ _ _).out.mono ?_;rintro e w' ⟨rfl,rfl⟩)
     | (go_at_call 150;refine (HM _).out.mono ?_;rintro e w' ⟨rfl,rfl⟩)
     | (go_at_call 157;refine (HB _ _ _ _ _ _ _ _ _).out.mono ?_;rintro e w' ⟨rfl,hb⟩))
   all_goals
     go_ret
     refine ⟨zaa (by simp_all),?_⟩
     clear HB HT HW HM
     first
       | (refine zb8 ?_ hb ?_
          · repeat (first | exact Below.refl _ _ | (refine Below.setCell ?_ (by simp) _) | (refine Below.alloc ?_ (by simp) _) | refine Below.drew ?_)
          · (simp;try omega))
       | (repeat (first | exact Below.refl _ _ | (refine Below.setCell ?_ (by simp) _) | (refine Below.alloc ?_ (by simp) _) | refine Below.drew ?_))
 · have e:Pr.partB 5 t n x y len = (inW n (-1000000) 1000000 && Pr.bareB t 0 x y len):=by simp [Pr.partB,inW]
   rw [e]
   clear e
   have HW:=fun w=>y14h (zct n (-1000000) 1000000 w)
   generalize inW n (-1000000) 1000000 = r1 at *
   go_enter Tryz.func120,Tryz.ntmps120
   go_wp2_with fail
   go_region_held3 (fun w'=>w'.cell? ⟨w.heap.size,0,none⟩ = some (.int .i64 5) ∧ w'.cell? ⟨w.heap.size,1,none⟩ = some (.string t) ∧ w'.cell? ⟨w.heap.size,2,none⟩ = some (.int .i64 n) ∧ w'.cell? ⟨w.heap.size,3,none⟩ = some (.complex .f64 x y) ∧ w'.cell? ⟨w.heap.size,4,none⟩ = some (.slice oa len cap)) (go_keep) (fail)
   go_wp2_with (first
     | (go_at_call 155;refine (HT _).out.mono ?_;rintro e w' ⟨rfl,rfl⟩)
     | (go_at_call 156;refine (HW _).out.mono ?_;rintro e w' ⟨rfl,rfl⟩)
     | (go_at_call 150;refine (HM _).out.mono ?_;rintro e w' ⟨rfl,rfl⟩)
     | (go_at_call 157;refine (HB _ _ _ _ _ _ _ _ _).out.mono ?_;rintro e w' ⟨rfl,hb⟩))
   all_goals
     go_ret
     refine ⟨zaa (by simp_all),?_⟩
     clear HB HT HW HM
     first
       | (refine zb8 ?_ hb ?_
          · repeat (first | exact Below.refl _ _ | (refine Below.setCell ?_ (by simp) _) | (refine Below.alloc ?_ (by simp) _) | refine Below.drew ?_)
          · (simp;try omega))
       | (repeat (first | exact Below.refl _ _ | (refine Below.setCell ?_ (by simp) _) | (refine Below.alloc ?_ (by simp) _) | refine Below.drew ?_))
 · have e:Pr.partB 6 t n x y len = (inW n (-1000000) 1000000 && Pr.bareB t 0 x y len):=by simp [Pr.partB,inW]
   rw [e]
   clear e
   have HW:=fun w=>y14h (zct n (-1000000) 1000000 w)
   generalize inW n (-1000000) 1000000 = r1 at *
   go_enter Tryz.func120,Tryz.ntmps120
   go_wp2_with fail
   go_region_held3 (fun w'=>w'.cell? ⟨w.heap.size,0,none⟩ = some (.int .i64 6) ∧ w'.cell? ⟨w.heap.size,1,none⟩ = some (.string t) ∧ w'.cell? ⟨w.heap.size,2,none⟩ = some (.int .i64 n) ∧ w'.cell? ⟨w.heap.size,3,none⟩ = some (.complex .f64 x y) ∧ w'.cell? ⟨w.heap.size,4,none⟩ = some (.slice oa len cap)) (go_keep) (fail)
   go_wp2_with (first
     | (go_at_call 155;refine (HT _).out.mono ?_;rintro e w' ⟨rfl,rfl⟩)
     | (go_at_call 156;refine (HW _).out.mono ?_;rintro e w' ⟨rfl,rfl⟩)
     | (go_at_call 150;refine (HM _).out.mono ?_;rintro e w' ⟨rfl,rfl⟩)
     | (go_at_call 157;refine (HB _ _ _ _ _ _ _ _ _).out.mono ?_;rintro e w' ⟨rfl,hb⟩))
   all_goals
     go_ret
     refine ⟨zaa (by simp_all),?_⟩
     clear HB HT HW HM
     first
       | (refine zb8 ?_ hb ?_
          · repeat (first | exact Below.refl _ _ | (refine Below.setCell ?_ (by simp) _) | (refine Below.alloc ?_ (by simp) _) | refine Below.drew ?_)
          · (simp;try omega))
       | (repeat (first | exact Below.refl _ _ | (refine Below.setCell ?_ (by simp) _) | (refine Below.alloc ?_ (by simp) _) | refine Below.drew ?_))
 · have e:Pr.partB 7 t n x y len = ((mayB x y && inW n 0 8000000) && Pr.bareB t 0 0 0 len):=by simp [Pr.partB,inW]
   rw [e]
   clear e
   have HW:=fun w=>y14h (zct n 0 8000000 w)
   generalize inW n 0 8000000 = r1 at *
   generalize mayB x y = r2 at *
   go_enter Tryz.func120,Tryz.ntmps120
   go_wp2_with fail
   go_region_held3 (fun w'=>w'.cell? ⟨w.heap.size,0,none⟩ = some (.int .i64 7) ∧ w'.cell? ⟨w.heap.size,1,none⟩ = some (.string t) ∧ w'.cell? ⟨w.heap.size,2,none⟩ = some (.int .i64 n) ∧ w'.cell? ⟨w.heap.size,3,none⟩ = some (.complex .f64 x y) ∧ w'.cell? ⟨w.heap.size,4,none⟩ = some (.slice oa len cap)) (go_keep) (fail)
   go_wp2_with (first
     | (go_at_call 155;refine (HT _).out.mono ?_;rintro e w' ⟨rfl,rfl⟩)
     | (go_at_call 156;refine (HW _).out.mono ?_;rintro e w' ⟨rfl,rfl⟩)
     | (go_at_call 150;refine (HM _).out.mono ?_;rintro e w' ⟨rfl,rfl⟩)
     | (go_at_call 157;refine (HB _ _ _ _ _ _ _ _ _).out.mono ?_;rintro e w' ⟨rfl,hb⟩))
   all_goals
     go_ret
     refine ⟨zaa (by simp_all),?_⟩
     clear HB HT HW HM
     first
       | (refine zb8 ?_ hb ?_
          · repeat (first | exact Below.refl _ _ | (refine Below.setCell ?_ (by simp) _) | (refine Below.alloc ?_ (by simp) _) | refine Below.drew ?_)
          · (simp;try omega))
       | (repeat (first | exact Below.refl _ _ | (refine Below.setCell ?_ (by simp) _) | (refine Below.alloc ?_ (by simp) _) | refine Below.drew ?_))
 · have e:Pr.partB 8 t n x y len = Pr.bareB t n x y 0:=by simp [Pr.partB,inW]
   rw [e]
   clear e
   go_enter Tryz.func120,Tryz.ntmps120
   go_wp2_with fail
   go_region_held3 (fun w'=>w'.cell? ⟨w.heap.size,0,none⟩ = some (.int .i64 8) ∧ w'.cell? ⟨w.heap.size,1,none⟩ = some (.string t) ∧ w'.cell? ⟨w.heap.size,2,none⟩ = some (.int .i64 n) ∧ w'.cell? ⟨w.heap.size,3,none⟩ = some (.complex .f64 x y) ∧ w'.cell? ⟨w.heap.size,4,none⟩ = some (.slice oa len cap)) (go_keep) (fail)
   go_wp2_with (first
     | (go_at_call 155;refine (HT _).out.mono ?_;rintro e w' ⟨rfl,rfl⟩)
     | (go_at_call 156;refine (HW _ _ _).out.mono ?_;rintro e w' ⟨rfl,rfl⟩)
     | (go_at_call 150;refine (HM _).out.mono ?_;rintro e w' ⟨rfl,rfl⟩)
     | (go_at_call 157;refine (HB _ _ _ _ _ _ _ _ _).out.mono ?_;rintro e w' ⟨rfl,hb⟩))
   all_goals
     go_ret
     refine ⟨zaa (by simp_all),?_⟩
     clear HB HT HW HM
     first
       | (refine zb8 ?_ hb ?_
          · repeat (first | exact Below.refl _ _ | (refine Below.setCell ?_ (by simp) _) | (refine Below.alloc ?_ (by simp) _) | refine Below.drew ?_)
          · (simp;try omega))
       | (repeat (first | exact Below.refl _ _ | (refine Below.setCell ?_ (by simp) _) | (refine Below.alloc ?_ (by simp) _) | refine Below.drew ?_))
 · have e:Pr.partB 9 t n x y len = Pr.bareB t n x y 0:=by simp [Pr.partB,inW]
   rw [e]
   clear e
   go_enter Tryz.func120,Tryz.ntmps120
   go_wp2_with fail
   go_region_held3 (fun w'=>w'.cell? ⟨w.heap.size,0,none⟩ = some (.int .i64 9) ∧ w'.cell? ⟨w.heap.size,1,none⟩ = some (.string t) ∧ w'.cell? ⟨w.heap.size,2,none⟩ = some (.int .i64 n) ∧ w'.cell? ⟨w.heap.size,3,none⟩ = some (.complex .f64 x y) ∧ w'.cell? ⟨w.heap.size,4,none⟩ = some (.slice oa len cap)) (go_keep) (fail)
   go_wp2_with (first
     | (go_at_call 155;refine (HT _).out.mono ?_;rintro e w' ⟨rfl,rfl⟩)
     | (go_at_call 156;refine (HW _ _ _).out.mono ?_;rintro e w' ⟨rfl,rfl⟩)
     | (go_at_call 150;refine (HM _).out.mono ?_;rintro e w' ⟨rfl,rfl⟩)
     | (go_at_call 157;refine (HB _ _ _ _ _ _ _ _ _).out.mono ?_;rintro e w' ⟨rfl,hb⟩))
   all_goals
     go_ret
     refine ⟨zaa (by simp_all),?_⟩
     clear HB HT HW HM
     first
       | (refine zb8 ?_ hb ?_
          · repeat (first | exact Below.refl _ _ | (refine Below.setCell ?_ (by simp) _) | (refine Below.alloc ?_ (by simp) _) | refine Below.drew ?_)
          · (simp;try omega))
       | (repeat (first | exact Below.refl _ _ | (refine Below.setCell ?_ (by simp) _) | (refine Below.alloc ?_ (by simp) _) | refine Below.drew ?_))
 · have e:Pr.partB 10 t n x y len = (decide (len = 1) && Pr.bareB t n x y 0):=by simp [Pr.partB,inW]
   rw [e]
   clear e
   have f2:=zrh len
   generalize decide (len = 1) = r1 at *
   go_enter Tryz.func120,Tryz.ntmps120
   go_wp2_with fail
   go_region_held3 (fun w'=>w'.cell? ⟨w.heap.size,0,none⟩ = some (.int .i64 10) ∧ w'.cell? ⟨w.heap.size,1,none⟩ = some (.string t) ∧ w'.cell? ⟨w.heap.size,2,none⟩ = some (.int .i64 n) ∧ w'.cell? ⟨w.heap.size,3,none⟩ = some (.complex .f64 x y) ∧ w'.cell? ⟨w.heap.size,4,none⟩ = some (.slice oa len cap)) (go_keep) (fail)
   go_wp2_with (first
     | (go_at_call 155;refine (HT _).out.mono ?_;rintro e w' ⟨rfl,rfl⟩)
     | (go_at_call 156;refine (HW _ _ _).out.mono ?_;rintro e w' ⟨rfl,rfl⟩)
     | (go_at_call 150;refine (HM _).out.mono ?_;rintro e w' ⟨rfl,rfl⟩)
     | (go_at_call 157;refine (HB _ _ _ _ _ _ _ _ _).out.mono ?_;rintro e w' ⟨rfl,hb⟩))
   all_goals
     go_ret
     refine ⟨zaa (by simp_all),?_⟩
     clear HB HT HW HM
     first
       | (refine zb8 ?_ hb ?_
          · repeat (first | exact Below.refl _ _ | (refine Below.setCell ?_ (by simp) _) | (refine Below.alloc ?_ (by simp) _) | refine Below.drew ?_)
          · (simp;try omega))
       | (repeat (first | exact Below.refl _ _ | (refine Below.setCell ?_ (by simp) _) | (refine Below.alloc ?_ (by simp) _) | refine Below.drew ?_))
 · have e:Pr.partB op t n x y len = false:=by simp [Pr.partB,n1,n2,n3,n4,n5,n6,n7,n8,n9,n10]
   rw [e]
   clear e
   go_enter Tryz.func120,Tryz.ntmps120
   go_wp2_with fail
   go_region_held3 (fun w'=>w'.cell? ⟨w.heap.size,0,none⟩ = some (.int .i64 op) ∧ w'.cell? ⟨w.heap.size,1,none⟩ = some (.string t) ∧ w'.cell? ⟨w.heap.size,2,none⟩ = some (.int .i64 n) ∧ w'.cell? ⟨w.heap.size,3,none⟩ = some (.complex .f64 x y) ∧ w'.cell? ⟨w.heap.size,4,none⟩ = some (.slice oa len cap)) (go_keep) (fail)
   go_wp2_with (first
     | (go_at_call 155;refine (HT _).out.mono ?_;rintro e w' ⟨rfl,rfl⟩)
     | (go_at_call 156;refine (HW _ _ _).out.mono ?_;rintro e w' ⟨rfl,rfl⟩)
     | (go_at_call 150;refine (HM _).out.mono ?_;rintro e w' ⟨rfl,rfl⟩)
     | (go_at_call 157;refine (HB _ _ _ _ _ _ _ _ _).out.mono ?_;rintro e w' ⟨rfl,hb⟩))
   all_goals
     go_ret
     refine ⟨rfl,?_⟩
     repeat (first | exact Below.refl _ _ | (refine Below.setCell ?_ (by simp) _) | (refine Below.alloc ?_ (by simp) _) | refine Below.drew ?_)
end Go.Proofs.YthnllikalobmeaaGreat
