/- Joined: Same, OpenK, Tree, LCM. -/
import Derived.Test.YthnllikalobmeaaGreatK16
import Derived.Test.YthnllikalobmeaaGreatK07
import Derived.Test.YthnllikalobmeaaGreatK15
import Derived.Deep.Slices
import Derived.Test.YthnllikalobmeaaGreatK11
import Derived.Test.YthnllikalobmeaaGreatK14
namespace Go.Proofs.YthnllikalobmeaaGreat
set_option linter.unusedVariables false
set_option linter.unusedSimpArgs false
set_option maxRecDepth 100000
set_option maxHeartbeats 8000000
open Go.RowKit
theorem y17h {p:Prop} (h:p):Hid p:=Lib.hid h
theorem zg9 (p:Pr) (v:Value) (w:World) (hL:LP w p v) (hsz:p.size ≤ 1000) :
   Calls Tryz.prog 40 #[.agg #[.int .i64 p.op,.string p.text,.int .i64 p.n,.complex .f64 p.x p.y,v]] w fun e w'=>e = .returned (.bool p.mayB) ∧ Below w.heap.size w w':=by
 obtain ⟨oq,cq,rfl⟩:=zal hL
 have S:=fun w' h=>y17h (zmy p (.slice oq p.kids.length cq) w' h hsz)
 have D:=fun w' h=>y17h (zlc p (.slice oq p.kids.length cq) w' h hsz)
 have A:=fun w' h=>y17h (zmt p (.slice oq p.kids.length cq) w' h hsz)
 have L0:=hL.atAlloc (.cells #[.int .i64 p.op,.string p.text,.int .i64 p.n,.complex .f64 p.x p.y,.slice oq p.kids.length cq] 40)
 have G0:=y17h (Own.new w #[.int .i64 p.op,.string p.text,.int .i64 p.n,.complex .f64 p.x p.y,.slice oq p.kids.length cq] 40)
 have L:=y17h L0
 clear hL L0
 have e:p.mayB = (decide ((p.size:Int) ≤ 30) && (decide ((p.depth:Int) ≤ 6) && p.all)):=rfl
 rw [e]
 clear e
 by_cases h1:(p.size:Int) ≤ 30
 · by_cases h2:(p.depth:Int) ≤ 6
   · rw [decide_eq_true h1,decide_eq_true h2,Bool.true_and,Bool.true_and]
     generalize p.all = pa at *
     go_enter Tryz.func40,Tryz.ntmps40
     go_wp2_with fail
     refine (S _ L.out).out.mono ?_;rintro e w1 ⟨rfl,hb1⟩
     have G1:=y17h (G0.out.later hb1)
     have L1:=y17h (L.out.later hb1 (Nat.le_refl _))
     have B1:=y17h (zaj hb1)
     clear hb1
     have l1:=G1.out.cell
     go_wp2_with fail
     refine (D _ L1.out).out.mono ?_;rintro e w2 ⟨rfl,hb2⟩
     have G2:=y17h (G1.out.later hb2)
     have L2:=y17h (L1.out.later hb2 (Nat.le_refl _))
     have B2:=y17h (B1.out.trans (hb2.mono B1.out.size))
     clear hb2 l1
     have l2:=G2.out.cell
     go_wp2_with fail
     refine (A _ L2.out).out.mono ?_;rintro e w3 ⟨rfl,hb3⟩
     go_wp2_with fail
     go_ret
     exact ⟨rfl,B2.out.trans (hb3.mono B2.out.size)⟩
   · rw [decide_eq_true h1,decide_eq_false h2,Bool.true_and,Bool.false_and]
     go_enter Tryz.func40,Tryz.ntmps40
     go_wp2_with fail
     refine (S _ L.out).out.mono ?_;rintro e w1 ⟨rfl,hb1⟩
     have G1:=y17h (G0.out.later hb1)
     have L1:=y17h (L.out.later hb1 (Nat.le_refl _))
     have B1:=y17h (zaj hb1)
     clear hb1
     have l1:=G1.out.cell
     go_wp2_with fail
     refine (D _ L1.out).out.mono ?_;rintro e w2 ⟨rfl,hb2⟩
     go_wp2_with fail
     go_ret
     exact ⟨rfl,B1.out.trans (hb2.mono B1.out.size)⟩
 · rw [decide_eq_false h1,Bool.false_and]
   go_enter Tryz.func40,Tryz.ntmps40
   go_wp2_with fail
   refine (S _ L.out).out.mono ?_;rintro e w1 ⟨rfl,hb1⟩
   go_wp2_with fail
   go_ret
   exact ⟨rfl,zaj hb1⟩
abbrev LK (w:World) (l:List Pr) (v:Value):Prop:=LP w (.node 0 ⟨#[]⟩ 0 0 0 l) v
theorem zt2 {w:World} {p:Pr} {v:Value} (h:LP w p v):LK w p.kids v:=by
 cases h with
 | mk op t n x y kids oa cap b o V ht hl hc hn hcell hrec=>exact .mk _ _ _ _ _ kids oa cap b o V (by decide) hl hc hn hcell hrec
def z03 (l m:List Pr) (len:Nat) (w0:World) (i:Value) (wr:World):Prop :=
 ∃ k:Nat,k ≤ len ∧ i = .int .i64 k ∧ Hid (Pr.sames (l.take k) (m.take k) = true) ∧ Below w0.heap.size w0 wr
end Go.Proofs.YthnllikalobmeaaGreat
namespace Go.Proofs.YthnllikalobmeaaGreat
set_option linter.unusedVariables false
set_option linter.unusedSimpArgs false
set_option maxRecDepth 100000
set_option maxHeartbeats 8000000
open Go.ChangeShapes Go.WideShapes Go.ChangeAt Go.RowKit Go.Deep
section
variable {H:Type} {enc:TypeId × Value → H} {w:World} {base:Nat} {spare:Nat → Bool} {held:Bool} {fuel:Nat} {cs:List Value} {x:DataW H × List MemPlace}
end
end Go.Proofs.YthnllikalobmeaaGreat
namespace Go.Proofs.YthnllikalobmeaaGreat
set_option linter.unusedVariables false
set_option linter.unusedSimpArgs false
set_option maxRecDepth 100000
set_option maxHeartbeats 8000000
open Go.ChangeShapes Go.WideShapes Go.ChangeAt Go.RowKit Go.Deep
section
variable {H:Type} {enc:TypeId × Value → H} {w:World} {base:Nat} {spare:Nat → Bool} {held:Bool}
theorem zu2 (fuel:Nat) (ih:∀ n,n < fuel → ∀ (cs:List Value) (x:DataW H × List MemPlace),DataW.trod enc Tryz.prog w base spare held n 25 cs = some x → ∃ p v,cs = tc p v ∧ Lies 6 tc (fun b=>b < w.heap.size) w p v)
   {cs:List Value} {x:DataW H × List MemPlace} (h:DataW.trod enc Tryz.prog w base spare held fuel 23 cs = some x) :
   ∃ (kids:List Pr) (v:Value),cs = [v] ∧ ∀ op (t:ByteArray) n y z,t.size ≤ maxLen → Lies 6 tc (fun b=>b < w.heap.size) w (.node op t n y z kids) v:=by
 rcases DataW.trod_slice Tryz.underlying23 h with ⟨rfl,_⟩ | ⟨a,len,cap,elems,rest,n,hf,rfl,_,hb,hl,hm,hlen,hel,_,_⟩
 · exact ⟨[],_,rfl,fun op t n y z ht=>.mk op t n y z [] none 0 0 0 (fun _=>.nilFunc) ht (Nat.le_refl _) (Nat.zero_le _) (fun h=>absurd h (Nat.lt_irrefl _)) (fun i p h=>by simp at h) (fun i p h=>by simp at h)⟩
 · have hC:Tryz.prog.cellsOf 25 = 6:=by kernel_rfl
   rw [hC] at hel
   have key:∀ i,i < len → ∃ p v,(∀ j u,(tc p v)[j]? = some u → w.cell? (a.add (i * 6 + j)) = some u) ∧ Lies 6 tc (fun b=>b < w.heap.size) w p v:=by
     intro i hi
     have h1:=hel i hi
     rw [List.getElem?_eq_getElem (by omega)] at h1
     obtain ⟨cs',h2,h3⟩:=Option.bind_eq_some_iff.1 h1
     obtain ⟨_,hcl,hat⟩:=World.cells?_some h2
     obtain ⟨p,v,rfl,hL⟩:=ih n (by omega) cs' _ h3
     refine ⟨p,v,fun j u hu=>?_,hL⟩
     have hj:j < 6:=by
       have:=(List.getElem?_eq_some_iff.1 hu).1;simpa [tc] using this
     rw [← Go.Deep.add_add,hat j hj,hu]
   classical
   let P:Nat → Pr:=fun i=>if h:i < len then (key i h).choose else .node 0 ⟨#[]⟩ 0 0 0 []
   let V:Nat → Value:=fun i=>if h:i < len then (key i h).choose_spec.choose else .nilFunc
   have hPV:∀ i,i < len → (∀ j u,(tc (P i) (V i))[j]? = some u → w.cell? (a.add (i * 6 + j)) = some u) ∧ Lies 6 tc (fun b=>b < w.heap.size) w (P i) (V i):=by
     intro i hi
     have:=(key i hi).choose_spec.choose_spec
     simp only [P,V,dif_pos hi]
     exact this
   have hk:∀ (i:Nat) (q:Pr),((List.range len).map P)[i]? = some q → i < len ∧ q = P i:=by
     intro i q hq
     rw [List.getElem?_map] at hq
     cases h:(List.range len)[i]? with
     | none=>rw [h] at hq;cases hq
     | some k =>
       rw [h] at hq
       obtain ⟨h1,h2⟩:=List.getElem?_eq_some_iff.1 h
       simp at h1 h2 hq
       subst h2
       exact ⟨h1,hq.symm⟩
   have hlk:((List.range len).map P).length = len:=by simp
   have hs:0 < len → a.spot = none ∧ a.block < w.heap.size:=by
     intro h0
     have h1:=(hPV 0 h0).1 0 _ rfl
     have e:a.add (0 * 6 + 0) = a:=by simp [Addr.add]
     rw [e] at h1
     exact ⟨World.cell?_spot h1,World.block_lt_of_cell? w _ h1⟩
   refine ⟨(List.range len).map P,_,rfl,fun op t n y z ht=>?_⟩
   have:=Lies.mk (sz:=6) (c:=tc) (S:=fun b=>b < w.heap.size) (w:=w) op t n y z ((List.range len).map P) (some a) cap a.block a.off V ht (by rw [hlk];exact hl) hm
     (fun h=>by
       rw [hlk] at h
       refine ⟨?_,(hs h).2⟩
       have h1:=(hs h).1
       obtain ⟨b,o,s⟩:=a
       simp only at h1;subst h1;rfl)
     (fun i p hp j u hu=>by
       obtain ⟨hi,rfl⟩:=hk i p hp
       have h1:=(hPV i hi).1 j u hu
       rw [zqa (hs (by omega)).1] at h1
       rw [Nat.add_assoc];exact h1)
     (fun i p hp=>by
       obtain ⟨hi,rfl⟩:=hk i p hp
       exact (hPV i hi).2)
   rw [hlk] at this
   exact this
theorem zmd (fuel:Nat):∀ (cs:List Value) (x:DataW H × List MemPlace),DataW.trod enc Tryz.prog w base spare held fuel 25 cs = some x → ∃ p v,cs = tc p v ∧ Lies 6 tc (fun b=>b < w.heap.size) w p v:=by
 induction fuel using Nat.strongRecOn with
 | ind fuel ih =>
   intro cs x h
   obtain ⟨xs,n,hn,hx,hl,hxl,hf⟩:=DataW.trod_struct Tryz.underlying25 h
   have hl':cs.length = 6:=hl.trans (by kernel_rfl)
   have F:=fun i f hi=>zvp (P:=Tryz.prog) (by kernel_rfl) (by rw [hl'];rfl) hxl hf i f hi
   match cs,hl' with
   | [c0,c1,c2,c3,c4,c5],_ =>
     obtain ⟨_,_,e0,t0⟩:=F 0 _ rfl
     obtain ⟨_,_,e1,t1⟩:=F 1 _ rfl
     obtain ⟨_,_,e2,t2⟩:=F 2 _ rfl
     obtain ⟨_,_,e3,t3⟩:=F 3 _ rfl
     obtain ⟨_,_,e4,t4⟩:=F 4 _ rfl
     obtain ⟨_,_,e5,t5⟩:=F 5 _ rfl
     obtain ⟨s0,k0,_,z0⟩:=DataW.trod_int Tryz.underlying3 t0
     obtain ⟨s1,k1,_,z1⟩:=DataW.trod_string Tryz.underlying9 t1
     obtain ⟨s2,k2,_,z2⟩:=DataW.trod_int Tryz.underlying3 t2
     obtain ⟨s3,k3⟩:=zev Tryz.underlying22 t3
     obtain ⟨s4,k4⟩:=zev Tryz.underlying22 t4
     obtain ⟨kids,v,k5,hL⟩:=zu2 n (fun n' hn'=>ih n' (by omega)) t5
     simp only [List.cons.injEq,and_true] at k0 k1 k2 k3 k4 k5
     simp at e0 e1 e2 e3 e4 e5
     subst e0 e1 e2 e3 e4 e5 k0 k1 k2 k3 k4 k5
     exact ⟨.node s0 s1 s2 s3 s4 kids,_,rfl,hL _ _ _ _ _ z1⟩
theorem zuf {r:Reach} {b0:Nat} {v:Value} {d:DataW H} {p:List MemPlace} (hv:Value.okWide Tryz.prog w r b0 25 v) (h:DataW.Trod enc Tryz.prog w base spare held 25 v d p) :
   ∃ (q:Pr) (k:Value),v = .agg #[.int .i64 q.op,.string q.text,.int .i64 q.n,.float .f64 q.x,.float .f64 q.y,k] ∧ LT w q k:=by
 obtain ⟨l,rfl,hsz⟩:=okWide_struct Tryz.underlying25 hv
 obtain ⟨f,hf⟩:=h
 obtain ⟨q,k,e,hL⟩:=zmd f _ _ hf
 refine ⟨q,k,?_,hL⟩
 obtain ⟨l⟩:=l
 have:l = _:=e
 rw [this];rfl
end
end Go.Proofs.YthnllikalobmeaaGreat
namespace Go.Proofs.YthnllikalobmeaaGreat
set_option linter.unusedVariables false
set_option linter.unusedSimpArgs false
set_option maxRecDepth 100000
set_option maxHeartbeats 8000000
open Go.RowKit
def posI (l:List Itm) (id:ByteArray):Nat:=l.countP fun i=>lsB i.id id
def hitI (l:List Itm) (id:ByteArray):Bool:=match l[posI l id]? with
 | some i=>i.id.toList == id.toList
 | none=>false
def toI (l:List Itm) (id:ByteArray):Nat:=if hitI l id = true then posI l id + 1 else posI l id
theorem zf3 (l:List Itm) (id:ByteArray):posI l id ≤ l.length:=List.countP_le_length
theorem zoq {l:List Itm} {id:ByteArray} (h:∀ i ∈ l,lsB i.id id = false):posI l id = 0:=by
 unfold posI
 rw [List.countP_eq_zero]
 intro i hi;rw [h i hi];simp
theorem zgq {a:Itm} {l:List Itm} {id:ByteArray} (h:zao (a :: l)):posI (a :: l) id = if lsB a.id id = true then posI l id + 1 else 0:=by
 split
 · rename_i h1;unfold posI;rw [List.countP_cons_of_pos (p:=fun i:Itm=>lsB i.id id) h1]
 · rename_i h1
   refine zoq fun i hi=>?_
   rw [riseI_cons] at h
   rcases List.mem_cons.1 hi with e | hi
   · subst e;simpa using h1
   · cases h2:lsB i.id id with
     | false=>rfl
     | true=>exact absurd (zbk (h.1 i hi) h2) h1
theorem zk8 {l:List Itm} {id:ByteArray} (h:zao l):∀ {j:Nat} {i:Itm},l[j]? = some i → lsB i.id id = decide (j < posI l id):=by
 induction l with
 | nil=>intro j i hj;simp at hj
 | cons a l ih =>
   intro j i hj
   rw [zgq h]
   have h':=riseI_cons.1 h
   cases j with
   | zero =>
     simp at hj;subst hj
     cases e:lsB a.id id <;> simp
   | succ j =>
     simp at hj
     rw [ih h'.2 hj]
     cases e:lsB a.id id with
     | true=>simp
     | false =>
       have:posI l id = 0:=by
         refine zoq fun i hi=>?_
         cases h2:lsB i.id id with
         | false=>rfl
         | true=>rw [zbk (h'.1 i hi) h2] at e;cases e
       rw [this];simp
theorem zo8 {l:List Itm} {id:ByteArray} (h:zao l):l.take (posI l id) = l.filter fun i=>lsB i.id id:=by
 induction l with
 | nil=>rfl
 | cons a l ih =>
   have h':=riseI_cons.1 h
   rw [zgq h]
   cases e:lsB a.id id with
   | true=>simp [e,ih h'.2]
   | false =>
     have:(a :: l).filter (fun i=>lsB i.id id) = []:=by
       rw [List.filter_eq_nil_iff]
       intro i hi h2
       rcases List.mem_cons.1 hi with q | hi
       · subst q;rw [e] at h2;cases h2
       · rw [zbk (h'.1 i hi) h2] at e;cases e
     rw [this];simp
theorem zv0 {a:Itm} {l:List Itm} {id:ByteArray} (h:zao (a :: l)):hitI (a :: l) id = if lsB a.id id = true then hitI l id else (a.id.toList == id.toList):=by
 unfold hitI
 rw [zgq h]
 cases e:lsB a.id id with
 | true=>simp only [if_true,List.getElem?_cons_succ]
 | false=>simp only [Bool.false_eq_true,if_false,List.getElem?_cons_zero]
theorem zqe {l:List Itm} {id:ByteArray} (h:zao l):l.drop (toI l id) = l.filter fun i=>gtB i.id id:=by
 induction l with
 | nil=>simp [toI]
 | cons a l ih =>
   have h':=riseI_cons.1 h
   have ih:=ih h'.2
   unfold toI at *
   rw [zv0 h,zgq h]
   cases e:lsB a.id id with
   | true =>
     simp only [if_true]
     have e2:gtB a.id id = false:=by rw [zd5];exact zdn e
     rw [List.filter_cons_of_neg (by simp [e2]),← ih]
     split <;> rfl
   | false =>
     have hall:∀ i ∈ l,gtB i.id id = true:=fun i hi=>by
       rw [zd5]
       rcases zdd a.id id with h1 | h1 | h1
       · rw [h1] at e;cases e
       · rw [← h1];exact h'.1 i hi
       · exact zbk h1 (h'.1 i hi)
     simp only [if_false,Bool.false_eq_true]
     cases e2:(a.id.toList == id.toList) with
     | true =>
       have e3:gtB a.id id = false:=by rw [zd5,tl_eq.1 e2];exact zbe _
       rw [List.filter_cons_of_neg (by simp [e3])]
       simp only [if_true,Nat.zero_add,List.drop_succ_cons,List.drop_zero]
       rw [List.filter_eq_self.2 hall]
     | false =>
       have e3:gtB a.id id = true:=by
         rw [zd5]
         rcases zdd a.id id with h1 | h1 | h1
         · rw [h1] at e;cases e
         · exact absurd h1 (tl_ne.1 e2)
         · exact h1
       rw [List.filter_cons_of_pos (by simp [e3]),List.filter_eq_self.2 hall]
       simp
theorem zul {l:List Itm} {x:Itm} (h:zao l):l.take (posI l x.id) ++ ([x] ++ l.drop (toI l x.id)) = putI l x:=by
 unfold putI
 rw [zo8 h,zqe h,List.append_assoc]
theorem zrj {l:List Itm} {id:ByteArray} (h:zao l):l.take (posI l id) ++ l.drop (toI l id) = l.filter (neB id):=by
 rw [zo8 h,zqe h]
 induction l with
 | nil=>rfl
 | cons a l ih =>
   have h':=riseI_cons.1 h
   have ih:=ih h'.2
   rcases zdd a.id id with h1 | h1 | h1
   · have e2:gtB a.id id = false:=by rw [zd5];exact zdn h1
     have e3:neB id a = true:=by unfold neB;rw [Bool.not_eq_true',tl_ne];exact zfk h1
     rw [List.filter_cons_of_pos (by simp [h1]),List.filter_cons_of_neg (by simp [e2]),List.filter_cons_of_pos (by simp [e3]),List.cons_append,ih]
   · have e1:lsB a.id id = false:=by rw [h1];exact zbe _
     have e2:gtB a.id id = false:=by rw [zd5,h1];exact zbe _
     have e3:neB id a = false:=by unfold neB;rw [Bool.not_eq_false',tl_eq];exact h1
     rw [List.filter_cons_of_neg (by simp [e1]),List.filter_cons_of_neg (by simp [e2]),List.filter_cons_of_neg (by simp [e3]),ih]
   · have e1:lsB a.id id = false:=zdn h1
     have e2:gtB a.id id = true:=by rw [zd5];exact h1
     have e3:neB id a = true:=by unfold neB;rw [Bool.not_eq_true',tl_ne];exact fun q=>zfk h1 q.symm
     have hn:l.filter (fun i=>lsB i.id id) = []:=by
       rw [List.filter_eq_nil_iff]
       intro i hi h2
       rw [zdn (zbk h1 (h'.1 i hi))] at h2;cases h2
     rw [hn] at ih
     rw [List.filter_cons_of_neg (by simp [e1]),List.filter_cons_of_pos (by simp [e2]),List.filter_cons_of_pos (by simp [e3]),hn,List.nil_append,← ih,List.nil_append]
theorem zvy {l:List Itm} {id:ByteArray} (h:zao l) (hh:hitI l id = true):∃ i,l[posI l id]? = some i ∧ getI l id = (i,true):=by
 unfold hitI at hh
 cases e:l[posI l id]? with
 | none=>rw [e] at hh;cases hh
 | some i =>
   rw [e] at hh
   exact ⟨i,rfl,ze2 h (List.mem_of_getElem? e) (tl_eq.1 hh)⟩
theorem ztn {l:List Itm} {id:ByteArray} (h:zao l) (hh:hitI l id = false):getI l id = (Itm.zero,false):=by
 refine zc1 fun i hi e=>?_
 obtain ⟨j,hj,e'⟩:=List.mem_iff_getElem.1 hi
 have hj9:l[j]? = some i:=by rw [List.getElem?_eq_getElem hj,e']
 have h1:=zk8 (id:=id) h hj9
 rw [e,zbe] at h1
 have hge:posI l id ≤ j:=by
   have:=of_decide_eq_false h1.symm;omega
 by_cases hq:posI l id = j
 · unfold hitI at hh;rw [hq,hj9] at hh
   have hh':(i.id.toList == id.toList) = false:=hh
   rw [tl_eq.2 e] at hh';cases hh'
 · obtain ⟨p,hp⟩:∃ p,l[posI l id]? = some p:=⟨_,List.getElem?_eq_getElem (by omega)⟩
   have h2:=zk8 (id:=id) h hp
   rw [decide_eq_false (by omega)] at h2
   have h3:lsB p.id i.id = true:=by
     have hpw:=h
     unfold zao Rise at hpw
     rw [List.pairwise_map] at hpw
     have hp':=(List.getElem?_eq_some_iff.1 hp)
     have:=List.pairwise_iff_getElem.1 hpw (posI l id) j hp'.1 hj (by omega)
     rw [hp'.2,e'] at this
     exact this
   rw [e,h2] at h3;cases h3
def mrgI (f:Itm → Itm → Bool):List Itm → List Itm → List Itm
 | [],m=>m
 | l,[]=>l
 | x :: l,y :: m=>if lsB x.id y.id = true then x :: mrgI f l (y :: m) else if lsB y.id x.id = true then y :: mrgI f (x :: l) m else (if f y x = true then y else x) :: mrgI f l m
 termination_by l m=>l.length + m.length
theorem zc3 (f:Itm → Itm → Bool) (m:List Itm):mrgI f [] m = m:=by rw [mrgI]
theorem zfm (f:Itm → Itm → Bool) (l:List Itm):mrgI f l [] = l:=by cases l <;> rw [mrgI];simp
theorem zdz (f:Itm → Itm → Bool) (x y:Itm) (l m:List Itm):mrgI f (x :: l) (y :: m) = if lsB x.id y.id = true then x :: mrgI f l (y :: m) else if lsB y.id x.id = true then y :: mrgI f (x :: l) m else (if f y x = true then y else x) :: mrgI f l m:=by rw [mrgI]
theorem zh1 {l m:List Itm} (hl:zao l) (hm:zao m) (h:∀ i,i ∈ l ↔ i ∈ m):l = m:=by
 induction l generalizing m with
 | nil =>
   cases m with
   | nil=>rfl
   | cons b m=>have:=(h b).2 (by simp);simp at this
 | cons a l ih =>
   cases m with
   | nil=>have:=(h a).1 (by simp);simp at this
   | cons b m =>
     rw [riseI_cons] at hl hm
     have e:a = b:=by
       rcases List.mem_cons.1 ((h a).1 (by simp)) with e | ha
       · exact e
       rcases List.mem_cons.1 ((h b).2 (by simp)) with e | hb
       · exact e.symm
       have:=zbk (hl.1 b hb) (hm.1 a ha)
       rw [zbe] at this;cases this
     subst e
     congr 1
     refine ih hl.2 hm.2 fun i=>⟨fun hi=>?_,fun hi=>?_⟩
     · rcases List.mem_cons.1 ((h i).1 (by simp [hi])) with e | h'
       · subst e;have:=hl.1 i hi;rw [zbe] at this;cases this
       · exact h'
     · rcases List.mem_cons.1 ((h i).2 (by simp [hi])) with e | h'
       · subst e;have:=hm.1 i hi;rw [zbe] at this;cases this
       · exact h'
theorem zfz {l:List Itm} {i:Itm} (h:zao l):i ∈ l ↔ getI l i.id = (i,true):=by
 constructor
 · intro hi;exact ze2 h hi rfl
 · intro hg
   rcases zcq l i.id with ⟨j,hj,_,e⟩ | ⟨_,e⟩
   · rw [e] at hg;cases hg;exact hj
   · rw [e] at hg;exact absurd (congrArg Prod.snd hg) (by simp)
theorem zus {l m:List Itm} (hl:zao l) (hm:zao m) (h:∀ id,getI l id = getI m id):l = m :=
 zh1 hl hm fun i=>by rw [zfz hl,zfz hm,h]
theorem zc0 (a:Itm) (l:List Itm) (id:ByteArray):getI (a :: l) id = if a.id = id then (a,true) else getI l id:=by
 unfold getI
 rw [List.find?_cons]
 cases h:(a.id.toList == id.toList) with
 | true=>rw [if_pos (tl_eq.1 h)]
 | false=>rw [if_neg (tl_ne.1 h)]
theorem zie {f:Itm → Itm → Bool}:∀ {n:Nat} {l m:List Itm} {i:Itm},l.length + m.length ≤ n → i ∈ mrgI f l m → i ∈ l ∨ i ∈ m:=by
 intro n
 induction n with
 | zero =>
   intro l m i hn hi
   have:l = []:=List.length_eq_zero_iff.1 (by omega)
   subst this;rw [zc3] at hi;exact .inr hi
 | succ n ih =>
   intro l m i hn hi
   cases l with
   | nil=>rw [zc3] at hi;exact .inr hi
   | cons x l =>
     cases m with
     | nil=>rw [zfm] at hi;exact .inl hi
     | cons y m =>
       simp only [List.length_cons] at hn
       rw [zdz] at hi
       split at hi
       · rcases List.mem_cons.1 hi with e | hi
         · subst e;exact .inl (by simp)
         · rcases ih (by simp only [List.length_cons];omega) hi with h | h
           · exact .inl (by simp [h])
           · exact .inr h
       · split at hi
         · rcases List.mem_cons.1 hi with e | hi
           · subst e;exact .inr (by simp)
           · rcases ih (by simp only [List.length_cons];omega) hi with h | h
             · exact .inl h
             · exact .inr (by simp [h])
         · rcases List.mem_cons.1 hi with e | hi
           · subst e;split
             · exact .inr (by simp)
             · exact .inl (by simp)
           · rcases ih (by omega) hi with h | h
             · exact .inl (by simp [h])
             · exact .inr (by simp [h])
theorem zwf {f:Itm → Itm → Bool}:∀ {n:Nat} {l m:List Itm},l.length + m.length ≤ n → zao l → zao m → zao (mrgI f l m):=by
 intro n
 induction n with
 | zero =>
   intro l m hn hl hm
   have:l = []:=List.length_eq_zero_iff.1 (by omega)
   subst this;rw [zc3];exact hm
 | succ n ih =>
   intro l m hn hl hm
   cases l with
   | nil=>rw [zc3];exact hm
   | cons x l =>
     cases m with
     | nil=>rw [zfm];exact hl
     | cons y m =>
       simp only [List.length_cons] at hn
       have hl':=riseI_cons.1 hl
       have hm':=riseI_cons.1 hm
       rw [zdz]
       split
       · rename_i h1
         refine riseI_cons.2 ⟨fun i hi=>?_,ih (by simp only [List.length_cons];omega) hl'.2 hm⟩
         rcases zie (Nat.le_refl _) hi with h | h
         · exact hl'.1 i h
         · rcases List.mem_cons.1 h with e | h
           · subst e;exact h1
           · exact zbk h1 (hm'.1 i h)
       · rename_i h1
         split
         · rename_i h2
           refine riseI_cons.2 ⟨fun i hi=>?_,ih (by simp only [List.length_cons];omega) hl hm'.2⟩
           rcases zie (Nat.le_refl _) hi with h | h
           · rcases List.mem_cons.1 h with e | h
             · subst e;exact h2
             · exact zbk h2 (hl'.1 i h)
           · exact hm'.1 i h
         · rename_i h2
           have e:x.id = y.id:=by
             rcases zdd x.id y.id with q | q | q
             · exact absurd q h1
             · exact q
             · exact absurd q h2
           refine riseI_cons.2 ⟨fun i hi=>?_,ih (by omega) hl'.2 hm'.2⟩
           have e2:(if f y x = true then y else x).id = x.id:=by split;exact e.symm;rfl
           rw [e2]
           rcases zie (Nat.le_refl _) hi with h | h
           · exact hl'.1 i h
           · rw [e];exact hm'.1 i h
theorem zlq {x:Itm} {l:List Itm} {id:ByteArray} (h:∀ i ∈ l,lsB x.id i.id = true) (hid:id = x.id ∨ lsB id x.id = true):getI l id = (Itm.zero,false):=by
 refine zc1 fun i hi e=>?_
 have:=h i hi
 rw [e] at this
 rcases hid with q | q
 · rw [q,zbe] at this;cases this
 · have:=zbk q this;rw [zbe] at this;cases this
theorem zyp {f:Itm → Itm → Bool}:∀ {n:Nat} {l m:List Itm} (id:ByteArray),l.length + m.length ≤ n → zao l → zao m → getI (mrgI f l m) id = if (getI m id).2 = true then (if (!(getI l id).2 || f (getI m id).1 (getI l id).1) = true then ((getI m id).1,true) else getI l id) else getI l id:=by
 intro n
 have nl:∀ m:List Itm,∀ id:ByteArray,getI m id = if (getI m id).2 = true then (if (!(getI [] id).2 || f (getI m id).1 (getI [] id).1) = true then ((getI m id).1,true) else getI [] id) else getI [] id:=by
   intro m id
   rw [show getI [] id = (Itm.zero,false) from rfl]
   rcases zcq m id with ⟨j,_,_,e⟩ | ⟨_,e⟩
   · rw [e];simp
   · rw [e];simp
 induction n with
 | zero =>
   intro l m id hn hl hm
   have:l = []:=List.length_eq_zero_iff.1 (by omega)
   subst this;rw [zc3];exact nl m id
 | succ n ih =>
   intro l m id hn hl hm
   cases l with
   | nil=>rw [zc3];exact nl m id
   | cons x l =>
     cases m with
     | nil=>rw [zfm,show getI [] id = (Itm.zero,false) from rfl];simp
     | cons y m =>
       simp only [List.length_cons] at hn
       have hl':=riseI_cons.1 hl
       have hm':=riseI_cons.1 hm
       rw [zdz]
       split
       · rename_i h1
         rw [zc0,ih id (by simp only [List.length_cons];omega) hl'.2 hm,zc0 x l id]
         by_cases e:x.id = id
         · rw [if_pos e,if_pos e]
           have:getI (y :: m) id = (Itm.zero,false):=zlq (x:=x) (fun i hi=>by
             rcases List.mem_cons.1 hi with q | hi
             · rw [q];exact h1
             · exact zbk h1 (hm'.1 i hi)) (.inl e.symm)
           rw [this];simp
         · rw [if_neg e,if_neg e]
       · rename_i h1
         split
         · rename_i h2
           rw [zc0,ih id (by simp only [List.length_cons];omega) hl hm'.2,zc0 y m id]
           by_cases e:y.id = id
           · rw [if_pos e,if_pos e]
             have:getI (x :: l) id = (Itm.zero,false):=zlq (x:=y) (fun i hi=>by
               rcases List.mem_cons.1 hi with q | hi
               · rw [q];exact h2
               · exact zbk h2 (hl'.1 i hi)) (.inl e.symm)
             rw [this];simp
           · rw [if_neg e,if_neg e]
         · rename_i h2
           have e:x.id = y.id:=by
             rcases zdd x.id y.id with q | q | q
             · exact absurd q h1
             · exact q
             · exact absurd q h2
           rw [zc0,ih id (by omega) hl'.2 hm'.2,zc0 x l id,zc0 y m id]
           have e2:(if f y x = true then y else x).id = x.id:=by split;exact e.symm;rfl
           rw [e2]
           by_cases q:x.id = id
           · rw [if_pos q,if_pos q,if_pos (e.symm.trans q)]
             cases hf:f y x <;> simp [hf]
           · rw [if_neg q,if_neg q,if_neg (fun h=>q (e.trans h))]
theorem zwe {f:Itm → Itm → Bool} {l m:List Itm} (hl:zao l) (hm:zao m):mrgI f l m = zas f l m :=
 zus (zwf (Nat.le_refl _) hl hm) (zeb m hl) fun id=>by rw [zyp id (Nat.le_refl _) hl hm,znz m id hl hm]
end Go.Proofs.YthnllikalobmeaaGreat
