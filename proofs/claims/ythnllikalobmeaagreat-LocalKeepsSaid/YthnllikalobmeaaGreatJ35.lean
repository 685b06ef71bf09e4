/- Joined: StGood2, LocF, LocF2. -/
import Derived.Test.YthnllikalobmeaaGreatJ32
import Derived.Test.YthnllikalobmeaaGreatJ20
import Derived.Test.YthnllikalobmeaaGreatJ28
import Derived.Test.YthnllikalobmeaaGreatJ33
import Derived.Deep.RegionHeld3
import Derived.Laws.EntriesVeiled
namespace Go.Proofs.YthnllikalobmeaaGreat
set_option linter.unusedVariables false
set_option linter.unusedSimpArgs false
set_option maxRecDepth 100000
set_option maxHeartbeats 8000000
open Go.RowKit
theorem y35h {p:Prop} (h:p):Hid p:=Lib.hid h
theorem zed {s:St} (h:Good s) {i:Itm} (hi:i ∈ s.store ∨ i ∈ s.out):zad s i.id = (i,true):=by
 rcases zcm h i.id with ⟨j,hj,e,hq⟩ | ⟨j,hj,e,hq⟩ | ⟨h1,h2,_⟩
 · rw [hq]
   rcases hi with hi | hi
   · rw [zdi h.rs hj hi e]
   · exact absurd e (h.tw i hi j hj)
 · rw [hq]
   rcases hi with hi | hi
   · exact absurd e.symm (h.tw j hj i hi)
   · rw [zdi h.ro hj hi e]
 · rcases hi with hi | hi
   · exact absurd rfl (h1 i hi)
   · exact absurd rfl (h2 i hi)
theorem zjm {s t:St} (h:Good s) (h':Good t) {id:ByteArray} (he:∀ i:Itm,i.id = id → ((i ∈ s.store ∨ i ∈ s.out) ↔ (i ∈ t.store ∨ i ∈ t.out))):zad s id = zad t id:=by
 rcases zcm h id with ⟨j,hj,e,hq⟩ | ⟨j,hj,e,hq⟩ | ⟨h1,h2,hq⟩
 · have:=zed h' ((he j e).1 (.inl hj));rw [e] at this;rw [hq,this]
 · have:=zed h' ((he j e).1 (.inr hj));rw [e] at this;rw [hq,this]
 · rcases zcm h' id with ⟨j,hj,e,_⟩ | ⟨j,hj,e,_⟩ | ⟨_,_,hq'⟩
   · rcases (he j e).2 (.inl hj) with q | q
     · exact absurd e (h1 j q)
     · exact absurd e (h2 j q)
   · rcases (he j e).2 (.inr hj) with q | q
     · exact absurd e (h1 j q)
     · exact absurd e (h2 j q)
   · rw [hq,hq']
theorem zdh (s:St) (x i:Itm):i ∈ (zas s x).store ↔ (i ∈ s.store ∧ i.id ≠ x.id) ∨ (i = zai s x ∧ hasT s.f x = true):=by
 show i ∈ zay (preS s x) (zai s x) ↔ _
 unfold zay
 rw [show hasT (preS s x).f (zai s x) = hasT s.f x from rfl]
 cases hh:hasT s.f x with
 | true =>
   rw [if_pos rfl,mem_put,mem_drop]
   constructor
   · rintro (e | ⟨⟨e1,e2⟩,_⟩)
     · exact .inr ⟨e,rfl⟩
     · exact .inl ⟨e1,e2⟩
   · rintro (⟨e1,e2⟩ | ⟨e,_⟩)
     · exact .inr ⟨⟨e1,e2⟩,e2⟩
     · exact .inl e
 | false =>
   rw [if_neg (by simp),mem_drop]
   constructor
   · rintro ⟨e1,e2⟩;exact .inl ⟨e1,e2⟩
   · rintro (⟨e1,e2⟩ | ⟨_,e⟩)
     · exact ⟨e1,e2⟩
     · cases e
theorem zja (s:St) (x i:Itm):i ∈ (zas s x).out ↔ (i ∈ s.out ∧ i.id ≠ x.id) ∨ (i = zai s x ∧ hasT s.f x = false):=by
 show i ∈ laidOut (preS s x) (zai s x) true ↔ _
 unfold laidOut
 rw [show hasT (preS s x).f (zai s x) = hasT s.f x from rfl]
 cases hh:hasT s.f x with
 | true =>
   rw [if_pos rfl,mem_drop]
   constructor
   · rintro ⟨e1,e2⟩;exact .inl ⟨e1,e2⟩
   · rintro (⟨e1,e2⟩ | ⟨_,e⟩)
     · exact ⟨e1,e2⟩
     · cases e
 | false =>
   rw [if_neg (by simp),if_pos rfl,mem_put,mem_drop]
   constructor
   · rintro (e | ⟨⟨e1,e2⟩,_⟩)
     · exact .inr ⟨e,rfl⟩
     · exact .inl ⟨e1,e2⟩
   · rintro (⟨e1,e2⟩ | ⟨e,_⟩)
     · exact .inr ⟨⟨e1,e2⟩,e2⟩
     · exact .inl e
theorem zrg {s:St} {x:Itm} (h:Good (zas s x)):zad (zas s x) x.id = (zai s x,true):=by
 have:zai s x ∈ (zas s x).store ∨ zai s x ∈ (zas s x).out:=by
   cases hh:hasT s.f x with
   | true=>exact .inl ((zdh s x _).2 (.inr ⟨rfl,hh⟩))
   | false=>exact .inr ((zja s x _).2 (.inr ⟨rfl,hh⟩))
 exact zed h this
theorem zpu {s:St} {x:Itm} (h:Good s) (h':Good (zas s x)) {id:ByteArray} (hid:id ≠ x.id):zad (zas s x) id = zad s id:=by
 refine zjm h' h fun i e=>?_
 rw [zdh,zja]
 have hne:i.id ≠ x.id:=by rw [e];exact hid
 have hnm:i ≠ zai s x:=fun q=>hne (by rw [q])
 constructor
 · rintro ((⟨a,_⟩ | ⟨a,_⟩) | (⟨a,_⟩ | ⟨a,_⟩))
   · exact .inl a
   · exact absurd a hnm
   · exact .inr a
   · exact absurd a hnm
 · rintro (a | a)
   · exact .inl (.inl ⟨a,hne⟩)
   · exact .inr (.inl ⟨a,hne⟩)
theorem zjz {s:St} {x:Itm} (h:Good (zas s x)):(getI (zas s x).store x.id).2 = hasT s.f x:=by
 cases hh:hasT s.f x with
 | true=>exact get_is.2 ⟨zai s x,(zdh s x _).2 (.inr ⟨rfl,hh⟩),rfl⟩
 | false =>
   cases q:(getI (zas s x).store x.id).2 with
   | false=>rfl
   | true =>
     obtain ⟨i,hi,e⟩:=get_is.1 q
     rcases (zdh s x i).1 hi with ⟨_,b⟩ | ⟨_,b⟩
     · exact absurd e b
     · rw [hh] at b;cases b
theorem zpt {s:St} {x:Itm} (h:Good s):hasK (zas s x).k x.id s.r (s.count + 1) = true :=
 zj2 _ _ _ _ _ _ _ (zf9 _ _ h.r.1 h.r.2 (by have:=h.c;omega))
theorem zvt (s:St) (id:ByteArray) (h:zak s.store):((s.store.filter fun i=>!i.d).any fun i=>i.id.toList == id.toList) = ((getI s.store id).2 && !(getI s.store id).1.d):=by
 rcases zbt s.store id with ⟨i,hi,e,hg⟩ | ⟨hn,hg⟩
 · rw [hg,Bool.true_and]
   cases hd:i.d with
   | true =>
     rw [Bool.not_true,List.any_eq_false]
     intro j hj q
     obtain ⟨j1,j2⟩:=List.mem_filter.1 hj
     have:j = i:=zdi h j1 hi ((tl_eq.1 q).trans e.symm)
     rw [this,hd] at j2;cases j2
   | false =>
     rw [Bool.not_false,List.any_eq_true]
     exact ⟨i,List.mem_filter.2 ⟨hi,by rw [hd];rfl⟩,tl_eq.2 e⟩
 · rw [hg,Bool.false_and,List.any_eq_false]
   intro j hj q
   exact hn j (List.mem_filter.1 hj).1 (tl_eq.1 q)
def filE (s:St) (f:Pr):Int:=if Pr.mayB f = true ∧ ¬(s.f.op = 1 ∧ f.op ≠ 1) then (if s.epoch = 1000000 then 5 else 0) else 1
def filB (s:St) (f:Pr):St:=⟨s.r,f,[],[],⟨zac,[]⟩,s.count,s.clock,s.epoch + 1⟩
def filW (t:St) (x:Itm):St:=⟨t.r,t.f,t.store,t.out,zaf (zat t.k x.id x.r x.c),t.count,t.clock,t.epoch⟩
def filP (t:St) (x:Itm):St:=zuk (filW t x) x true
def filF (s:St) (f:Pr):St:=(zao behT s.store s.out).foldl filP (filB s f)
def filS (s:St) (f:Pr):St:=if filE s f = 0 then filF s f else s
structure FilI (s:St) (p:Pr) (u:St) (l:List Itm):Prop where
 r:u.r = s.r
 f:u.f = p
 c:u.count = s.count
 t:u.clock = s.clock
 e:u.epoch = s.epoch + 1
 ms:∀ i,i ∈ u.store ↔ i ∈ l ∧ hasT p i = true
 mo:∀ i,i ∈ u.out ↔ i ∈ l ∧ hasT p i = false
 rs:zak u.store
 ro:zak u.out
 k:mayK zax u.k = true
 kn:∀ i ∈ l,hasK u.k i.id i.r i.c = true
 b:beyS u.k s.r s.count = false
 n:u.store.length + u.out.length ≤ l.length
theorem zkr:mayK zax ⟨zac,[]⟩ = true:=by
 have:zaf ⟨zac,[]⟩ = ⟨zac,[]⟩:=rfl
 rw [zf1,this]
 exact ⟨⟨zil _,fun j _=>⟨by show (0:Int) ≤ 0;decide,by show (0:Int) ≤ 1000;decide⟩⟩,fun f hf=>by simp at hf⟩
theorem zu7 {s:St} (h:Good s) (f:Pr):FilI s f (filB s f) []:=by
 refine ⟨rfl,rfl,rfl,rfl,rfl,fun i=>?_,fun i=>?_,by simp [filB,zak,Rise],by simp [filB,zak,Rise],zkr,fun i hi=>by simp at hi,?_,by simp [filB]⟩
 · show i ∈ [] ↔ i ∈ [] ∧ _
   simp
 · show i ∈ [] ↔ i ∈ [] ∧ _
   simp
 · rw [beyS_iff]
   have:=h.c
   exact ⟨zdl this.1 fun _=>this.1,fun f hf=>by simp [filB] at hf⟩
theorem zu9 {s:St} {f:Pr} {t:St} {l:List Itm} {x:Itm} (hc:0 ≤ s.count) (h:FilI s f t l) (hx:mayT x = true) (hb:x.r = s.r → x.c ≤ s.count) (hn:∀ i ∈ l,i.id ≠ x.id):FilI s f (filP t x) (l ++ [x]):=by
 have hxx:=mayT_iff.1 hx
 have hs:∀ i,i ∈ (filP t x).store ↔ i ∈ l ++ [x] ∧ hasT f i = true:=fun i=>by
   show i ∈ zay (filW t x) x ↔ _
   unfold zay
   rw [show hasT (filW t x).f x = hasT f x by rw [show (filW t x).f = t.f from rfl,h.f],show (filW t x).store = t.store from rfl,List.mem_append,List.mem_singleton]
   cases hh:hasT f x with
   | true =>
     rw [if_pos rfl,mem_put,mem_drop,h.ms]
     constructor
     · rintro (e | ⟨⟨⟨e1,e2⟩,_⟩,_⟩)
       · exact ⟨.inr e,by rw [e];exact hh⟩
       · exact ⟨.inl e1,e2⟩
     · rintro ⟨e | e,e2⟩
       · exact .inr ⟨⟨⟨e,e2⟩,hn i e⟩,hn i e⟩
       · exact .inl e
   | false =>
     rw [if_neg (by simp),mem_drop,h.ms]
     constructor
     · rintro ⟨⟨e1,e2⟩,_⟩;exact ⟨.inl e1,e2⟩
     · rintro ⟨e | e,e2⟩
       · exact ⟨⟨e,e2⟩,hn i e⟩
       · rw [e,hh] at e2;cases e2
 have ho:∀ i,i ∈ (filP t x).out ↔ i ∈ l ++ [x] ∧ hasT f i = false:=fun i=>by
   show i ∈ laidOut (filW t x) x true ↔ _
   unfold laidOut
   rw [show hasT (filW t x).f x = hasT f x by rw [show (filW t x).f = t.f from rfl,h.f],show (filW t x).out = t.out from rfl,List.mem_append,List.mem_singleton]
   cases hh:hasT f x with
   | true =>
     rw [if_pos rfl,mem_drop,h.mo]
     constructor
     · rintro ⟨⟨e1,e2⟩,_⟩;exact ⟨.inl e1,e2⟩
     · rintro ⟨e | e,e2⟩
       · exact ⟨⟨e,e2⟩,hn i e⟩
       · rw [e,hh] at e2;cases e2
   | false =>
     rw [if_neg (by simp),if_pos rfl,mem_put,mem_drop,h.mo]
     constructor
     · rintro (e | ⟨⟨⟨e1,e2⟩,_⟩,_⟩)
       · exact ⟨.inr e,by rw [e];exact hh⟩
       · exact ⟨.inl e1,e2⟩
     · rintro ⟨e | e,e2⟩
       · exact .inr ⟨⟨⟨e,e2⟩,hn i e⟩,hn i e⟩
       · exact .inl e
 refine ⟨h.r,h.f,h.c,h.t,h.e,hs,ho,?_,?_,zkq h.k hxx.1 (by omega),fun i hi=>?_,?_,?_⟩
 · show zak (zay (filW t x) x)
   unfold zay
   split
   · exact zem (za5 h.rs)
   · exact za5 h.rs
 · show zak (laidOut (filW t x) x true)
   unfold laidOut
   split
   · exact za5 h.ro
   · rw [if_pos rfl];exact zem (za5 h.ro)
 · rcases List.mem_append.1 hi with hi | hi
   · exact zna _ _ _ _ _ _ _ (h.kn i hi)
   · simp at hi;subst hi
     exact zf9 _ _ (by omega) (by omega) (by omega)
 · exact zin hc (zj9 hc h.b hb (by omega) (by omega))
 · show (zay (filW t x) x).length + (laidOut (filW t x) x true).length ≤ (l ++ [x]).length
   have hn:=h.n
   have f1:=zhb t.store x.id
   have f2:=zhb t.out x.id
   have p1:=zc2 (t.store.filter (neB x.id)) x
   have p2:=zc2 (t.out.filter (neB x.id)) x
   unfold zay laidOut
   rw [List.length_append]
   simp only [if_pos,List.length_cons,List.length_nil]
   cases hasT (filW t x).f x with
   | true=>simp only [if_true];show (putI (t.store.filter (neB x.id)) x).length + (t.out.filter (neB x.id)).length ≤ _;omega
   | false=>simp only [Bool.false_eq_true,if_false];show (t.store.filter (neB x.id)).length + (putI (t.out.filter (neB x.id)) x).length ≤ _;omega
theorem zva {s:St} {f:Pr} (hc:0 ≤ s.count) (m:List Itm):∀ {t:St} {l:List Itm},FilI s f t l → zak (l ++ m) → (∀ x ∈ m,mayT x = true ∧ (x.r = s.r → x.c ≤ s.count)) → FilI s f (m.foldl filP t) (l ++ m):=by
 induction m with
 | nil=>intro t l h _ _;rw [List.append_nil];exact h
 | cons x m ih =>
   intro t l h hr hm
   have hn:∀ i ∈ l,i.id ≠ x.id:=fun i hi e=>by
     unfold zak Rise at hr
     rw [List.map_append,List.pairwise_append] at hr
     have:=hr.2.2 i.id (List.mem_map.2 ⟨i,hi,rfl⟩) x.id (by simp)
     rw [e,za4] at this;cases this
   have h2:=zu9 hc h (hm x (by simp)).1 (hm x (by simp)).2 hn
   have:=ih h2 (by rw [List.append_assoc];exact hr) fun y hy=>hm y (by simp [hy])
   rw [List.append_assoc] at this
   exact this
theorem all_mem {s:St} (h:Good s) (i:Itm):i ∈ zao behT s.store s.out ↔ (i ∈ s.store ∨ i ∈ s.out):=by
 constructor
 · exact zlr s.out
 · intro hi
   exact (zfh (zdz s.out h.rs)).2 (zed h hi)
theorem zfg {s:St} (h:Good s) (f:Pr):FilI s f (filF s f) (zao behT s.store s.out):=by
 have:=zva (f:=f) h.c.1 (zao behT s.store s.out) (zu7 h f) (by simpa using zdz s.out h.rs) fun x hx=>by
   rcases (all_mem h x).1 hx with hi | hi
   · exact ⟨(mayLB_iff.1 h.st).1 x hi,fun e=>zkk (h.si x hi).knows (by rw [e];exact h.b)⟩
   · exact ⟨(mayLB_iff.1 h.ou).1 x hi,fun e=>zkk (h.so x hi).knows (by rw [e];exact h.b)⟩
 rw [List.nil_append] at this
 exact this
theorem zs0 {s:St} {f:Pr} (h:Good s) (hf:filE s f = 0):Good (filF s f):=by
 have F:=zfg h f
 have hff:Pr.mayB f = true ∧ s.epoch ≠ 1000000:=by
   unfold filE at hf
   split at hf
   · rename_i q
     split at hf
     · cases hf
     · rename_i q2;exact ⟨q.1,q2⟩
   · cases hf
 have mem:∀ i,i ∈ zao behT s.store s.out → mayT i = true ∧ i.st ≤ s.clock:=fun i hi=>by
   rcases (all_mem h i).1 hi with q | q
   · exact ⟨(mayLB_iff.1 h.st).1 i q,(h.si i q).stamp⟩
   · exact ⟨(mayLB_iff.1 h.ou).1 i q,(h.so i q).stamp⟩
 have he:=h.e
 refine ⟨by rw [F.f];exact hff.1,mayLB_iff.2 ⟨fun i hi=>(mem i ((F.ms i).1 hi).1).1,F.rs⟩,mayLB_iff.2 ⟨fun i hi=>(mem i ((F.mo i).1 hi).1).1,F.ro⟩,F.k,by rw [F.r];exact h.r,?_,by rw [F.c];exact h.c,by rw [F.t];exact h.t,by rw [F.e];omega,fun i hi j hj e=>?_,fun i hi=>?_,fun i hi=>?_,by rw [F.r,F.c];exact F.b⟩
 · have h1:=F.n
   have h2:=zjx (l:=s.store) (m:=s.out) (f:=behT)
   have:=h.n
   omega
 · obtain ⟨a1,a2⟩:=(F.mo i).1 hi
   obtain ⟨b1,b2⟩:=(F.ms j).1 hj
   rw [zdi (zdz s.out h.rs) b1 a1 e,a2] at b2;cases b2
 · obtain ⟨b1,b2⟩:=(F.ms i).1 hi
   exact ⟨by rw [F.f];exact b2,F.kn i b1,by rw [F.t];exact (mem i b1).2⟩
 · obtain ⟨b1,b2⟩:=(F.mo i).1 hi
   exact ⟨by rw [F.f];exact b2,F.kn i b1,by rw [F.t];exact (mem i b1).2⟩
theorem zpc {s:St} {f:Pr} (h:Good s) (h':Good (filF s f)) (id:ByteArray):zad (filF s f) id = zad s id:=by
 have F:=zfg h f
 refine zjm h' h fun i _=>?_
 rw [F.ms,F.mo,← all_mem h]
 constructor
 · rintro (⟨a,_⟩ | ⟨a,_⟩) <;> exact a
 · intro a
   cases q:hasT f i with
   | true=>exact .inl ⟨a,rfl⟩
   | false=>exact .inr ⟨a,rfl⟩
theorem zvu {s:St} (h:Good s) (hf:Pr.same s.f s.f = true):zdw s s = true:=by
 unfold zdw
 rw [hf,zil,zf5 fun i hi=>zec (zdq ((mayLB_iff.1 h.st).1 i hi)).1 (zdq ((mayLB_iff.1 h.st).1 i hi)).2,zf5 fun i hi=>zec (zdq ((mayLB_iff.1 h.ou).1 i hi)).1 (zdq ((mayLB_iff.1 h.ou).1 i hi)).2]
 simp
theorem ztg (s t:St) (x:Itm) (ht:t.count = s.count):zdw (zas s x) t = false:=by
 unfold zdw
 rw [show (zas s x).count = s.count + 1 from rfl,ht,decide_eq_false (show ¬ s.count + 1 = s.count by omega)]
 simp
theorem zvb {s:St} (h:Good s) (f:Pr):zdw (filF s f) s = false:=by
 unfold zdw
 rw [(zfg h f).e,decide_eq_false (show ¬ s.epoch + 1 = s.epoch by omega)]
 simp
theorem zfz {a w w':World} {row:Option Nat} (h:a.grownBy w row) (k:w.grownBy w' row):a.grownBy w' row :=
 ⟨k.os.trans h.os,k.tape.trans h.tape,k.output.trans h.output,Nat.le_trans h.size k.size,fun b hb hne=>(k.block b (Nat.lt_of_lt_of_le hb h.size) hne).trans (h.block b hb hne)⟩
theorem zs5 {a w w':World} {row:Option Nat} {B:Nat} (h:a.grownBy w row) (hb:Below B w w') (hB:a.heap.size ≤ B):a.grownBy w' row :=
 ⟨hb.os.trans h.os,hb.tape.trans h.tape,hb.output.trans h.output,Nat.le_trans h.size hb.size,fun b hlt hne=>(hb.block b (Nat.lt_of_lt_of_le hlt hB)).trans (h.block b hlt hne)⟩
theorem zoe {a w w':World} {row:Option Nat} (h:a.grownBy w none) (k:w.grownBy w' row):a.grownBy w' row :=
 ⟨k.os.trans h.os,k.tape.trans h.tape,k.output.trans h.output,Nat.le_trans h.size k.size,fun b hb hne=>(k.block b (Nat.lt_of_lt_of_le hb h.size) hne).trans (h.block b hb (by simp))⟩
theorem zws {w:World} {b o:Nat} (v:Value):w.grownBy (w.setCell ⟨b,o,none⟩ v) (some b) :=
 ⟨rfl,rfl,rfl,by simp [World.setCell],fun k hk hne=>Below.heap_setCell _ _ _ _ (fun e=>hne (by rw [e]))⟩
theorem zju {a:World} {row:Option Nat} {b:Nat} (hb:a.heap.size ≤ b) (vs:List Value):∀ {w:World} (o:Nat),a.grownBy w row → a.grownBy (w.setCells b o vs) row:=by
 induction vs with
 | nil=>intro w o h;exact h
 | cons v vs ih =>
   intro w o h
   refine ih (o + 1) ⟨h.os,h.tape,h.output,by simpa [World.setCell] using h.size,fun k hk hne=>?_⟩
   rw [Below.heap_setCell _ _ _ _ (by simp only [ne_eq];omega)]
   exact h.block k hk hne
theorem zhc {a w:World} {row:Option Nat} (h:a.grownBy w row) {b:Nat} (hb:b < a.heap.size) (hne:some b ≠ row) (o:Nat):w.cell? ⟨b,o,none⟩ = a.cell? ⟨b,o,none⟩:=World.cell?_of_block (h.block b hb hne)
theorem zne {B:Nat} {w w':World} {b:Nat} (h:w.grownBy w' (some b)) (hb:B ≤ b) (hB:B ≤ w.heap.size):Below B w w' :=
 (Below.refl B w).grown h hB (fun k hk=>by cases hk;exact hb)
theorem LPF.grown {w w':World} {B:Nat} {p:Pr} {v:Value} {b:Nat} (h:LPF w B p v) (hg:w.grownBy w' (some b)) (hb:b < B):LPF w' B p v :=
 h.mono (fun k o hS=>zhc hg hS.2 (by simp only [ne_eq,Option.some.injEq];have:=hS.1;omega) o) fun k hS=>⟨hS.1,Nat.lt_of_lt_of_le hS.2 hg.size⟩
def setL:List Value → Nat → List Value → List Value
 | xs,_,[]=>xs
 | xs,o,v :: vs=>setL (xs.set o v) (o + 1) vs
theorem zig {base n size g cap:Nat} {e:TypeId} (vs:List Value):∀ {w:World} {xs:List Value} (o:Nat),w.ownsRow base e size (.slice (some ⟨g,0,none⟩) n cap) n xs → o + vs.length ≤ n * size → (w.setCells g o vs).ownsRow base e size (.slice (some ⟨g,0,none⟩) n cap) n (setL xs o vs):=by
 induction vs with
 | nil=>intro w xs o h _;exact h
 | cons v vs ih =>
   intro w xs o h hl
   simp only [List.length_cons] at hl
   exact ih (o + 1) (zj6 h v (by omega)) (by omega)
theorem zeq {α:Type} {xs:List α} {k:Nat} {x:α} (h:xs[k]? = some x):xs.set k x = xs:=by
 apply List.ext_getElem?
 intro j
 rw [List.getElem?_set]
 split
 · rename_i e
   subst e
   split
   · exact h.symm
   · rename_i hn;rw [List.getElem?_eq_none (by omega)]
 · rfl
theorem zrn (V:Nat → Value) (l:List Pr):∀ (s a:Nat) (p:Pr) (v:Value),l[a]? = some p → zar (updU V (s + a) v) s l = (zar V s l).set (a * 5 + 4) v:=by
 induction l with
 | nil=>intro s a p v h;simp at h
 | cons q l ih =>
   intro s a p v h
   cases a with
   | zero =>
     simp at h;subst h
     rw [zar,zar,Nat.zero_mul,Nat.zero_add,Nat.add_zero,zbr]
     rw [zf3 (V:=updU V s v) (W:=V) (s:=s + 1) (s':=s + 1) (l:=l) (fun i _=>zbb _ _ (by omega))]
     simp [pc]
   | succ a =>
     simp at h
     rw [zar,zar,zbb _ _ (by omega)]
     have e:(pc q (V s)).length = 5:=rfl
     rw [List.set_append_right _ _ (by rw [e];omega),e,show (a + 1) * 5 + 4 - 5 = a * 5 + 4 by omega,← ih (s + 1) a p v h,show s + 1 + a = s + (a + 1) by omega]
theorem zro (V:Nat → Value) (l:List Pr) (a:Nat) (p:Pr) (v:Value) (h:l[a]? = some p):setL (zar V 0 l) (a * 5) (pc p v) = zar (updU V a v) 0 l:=by
 have g:=fun j (hj:j < 4)=>(zel V 0 l a p h j (by omega))
 have e:=zrn V l 0 a p v h
 rw [Nat.zero_add] at e g
 rw [e]
 rw [show setL (zar V 0 l) (a * 5) (pc p v) = ((((((zar V 0 l).set (a * 5) (.int .i64 p.op)).set (a * 5 + 1) (.string p.text)).set (a * 5 + 1 + 1) (.int .i64 p.n)).set (a * 5 + 1 + 1 + 1) (.complex .f64 p.x p.y)).set (a * 5 + 1 + 1 + 1 + 1) v) from rfl]
 rw [zeq (k:=a * 5) (by have:=g 0 (by omega);simpa [pc] using this),zeq (k:=a * 5 + 1) (by have:=g 1 (by omega);simpa [pc] using this),zeq (k:=a * 5 + 1 + 1) (by have:=g 2 (by omega);simpa [pc] using this),zeq (k:=a * 5 + 1 + 1 + 1) (by have:=g 3 (by omega);simpa [pc] using this)]
structure An (w:World) (bl ba:Nat) (n:Int):Prop where
 l:Own w bl #[.int .i64 n] 3
 a:Own w ba #[.func (Fn.func 95) #[] #[.pointer (some ⟨bl,0,none⟩),.pointer (some ⟨ba,0,none⟩)]] 89
theorem An.ne {w:World} {bl ba:Nat} {n:Int} (h:An w bl ba n):bl ≠ ba:=by
 intro e
 subst e
 have h1:=h.l.blk
 rw [h.a.blk] at h1
 simp at h1
theorem An.later {w w':World} {bl ba:Nat} {n:Int} (h:An w bl ba n) (hb:Below w.heap.size w w'):An w' bl ba n:=⟨h.l.later hb,h.a.later hb⟩
theorem An.alloc {w:World} {bl ba:Nat} {n:Int} (h:An w bl ba n) (o:Obj):An (w.alloc o) bl ba n:=⟨h.l.alloc o,h.a.alloc o⟩
theorem An.drew {w:World} {bl ba:Nat} {n:Int} (h:An w bl ba n):An w.drew bl ba n:=⟨h.l.drew,h.a.drew⟩
theorem Own.grownD {w w':World} {b r:Nat} {c:Array Value} {t:TypeId} (h:Own w b c t) (hg:w.drew.grownBy w' (some r)) (hne:b ≠ r):Own w' b c t:=h.drew.grown hg (by simpa using hne)
theorem zkj {w w':World} {r:Option Nat} (hg:w.drew.grownBy w' r):w.grownBy w' r:=⟨hg.os,hg.tape,hg.output,hg.size,hg.block⟩
theorem zr3 {w:World} {base g len c k j:Nat} {kids:List Pr} {V:Nat → Value} {q:Pr} {u:Value} (h:w.ownsRow base 40 5 (.slice (some ⟨g,0,none⟩) len c) len (zar V 0 kids)) (hlen:kids.length = len) (hq:kids[k]? = some q) (hlt:k < len) (hu:(pc q (V k))[j]? = some u):w.cell? ⟨g,k * 5 + j,none⟩ = some u:=by
 have hj:j < 5:=(List.getElem?_eq_some_iff.1 hu).1
 rw [h.cellAt (k * 5 + j) (by omega),zel _ _ _ _ _ hq _ hj,Nat.zero_add]
 exact hu
theorem Own.far5 {w:World} {b g:Nat} {c:Array Value} {t:TypeId} (h:Own w b c t) (hne:b ≠ g) (o0 o1 o2 o3 o4:Nat) (c0 c1 c2 c3 c4:Value):Own (((((w.setCell ⟨g,o0,none⟩ c0).setCell ⟨g,o1,none⟩ c1).setCell ⟨g,o2,none⟩ c2).setCell ⟨g,o3,none⟩ c3).setCell ⟨g,o4,none⟩ c4) b c t :=
 ((((h.setFar _ _ hne).setFar _ _ hne).setFar _ _ hne).setFar _ _ hne).setFar _ _ hne
theorem An.set {w:World} {bl ba:Nat} {n:Int} (h:An w bl ba n) (m:Int):An (w.setCell ⟨bl,0,none⟩ (.int .i64 m)) bl ba m :=
 ⟨by simpa using h.l.set 0 (.int .i64 m),h.a.setFar _ _ (fun e=>h.ne e.symm)⟩
theorem LPF.setsAt {B b:Nat} {p:Pr} {v:Value} (hb:b < B) (vs:List Value):∀ {w:World} (o:Nat),LPF w B p v → LPF (w.setCells b o vs) B p v:=by
 induction vs with
 | nil=>intro w o h;exact h
 | cons u vs ih =>
   intro w o h
   exact ih (o + 1) (h.mono (fun b' o' hS=>World.cell?_setCell_other _ _ _ _ (fun e=>by have:=hS.1;have:b = b':=congrArg Addr.block e;omega)) fun _ hS=>⟨hS.1,by simpa [World.setCell] using hS.2⟩)
def zln (p:Pr) (bl ba:Nat) (n:Int) (w:World) (e:Ending) (w':World):Prop :=
 ∃ v',e = .returned (prV p v') ∧ LPF w' w.heap.size p v' ∧ w.grownBy w' (some bl) ∧ An w' bl ba (n + 1 - p.size)
structure AnS (w:World) (kids:List Pr) (bl ba:Nat) (n:Int) (X Z:Array Value) (V:Nat → Value) (rv:Value) (g k:Nat) (V':Nat → Value) (wr:World):Prop where
 x:Own wr w.heap.size X 40
 z:Own wr (w.heap.size + 1) Z 40
 row:wr.ownsRow (w.heap.size + 2) 40 5 rv kids.length (zar V' 0 kids)
 done:∀ i q,i < k → kids[i]? = some q → LPF wr (g + 1) q (V' i)
 left:∀ i,k ≤ i → V' i = V i
 an:An wr bl ba (n - kids.length + k - Pr.sizes (kids.take k))
 gr:w.grownBy wr (some bl)
def zxd (w:World) (kids:List Pr) (len:Nat) (bl ba:Nat) (n:Int) (X Z:Array Value) (V:Nat → Value) (rv:Value) (g:Nat) (i:Value) (wr:World):Prop :=
 ∃ (k:Nat) (V':Nat → Value),k ≤ len ∧ i = .int .i64 k ∧ Hid (AnS w kids bl ba n X Z V rv g k V' wr)
theorem AnS.step {w wr w8:World} {kids:List Pr} {bl ba:Nat} {n:Int} {X Z:Array Value} {V V':Nat → Value} {len cap g k:Nat} {q:Pr} {v8:Value} {C:Array Value} (h:AnS w kids bl ba n X Z V (.slice (some ⟨g,0,none⟩) len cap) g k V' wr) (hlen:kids.length = len)
   (hbl:bl < w.heap.size) (hba:ba < w.heap.size) (hg:w.heap.size + 2 ≤ g) (hgl:g < wr.heap.size) (hq:kids[k]? = some q)
   (hL:LPF w8 (wr.alloc (.cells C 40)).heap.size q v8) (hgr:(wr.alloc (.cells C 40)).grownBy w8 (some bl)) (han:An w8 bl ba (n - kids.length + k - Pr.sizes (kids.take k) + 1 - q.size)) :
   AnS w kids bl ba n X Z V (.slice (some ⟨g,0,none⟩) len cap) g (k + 1) (updU V' k v8) (w8.setCells g (k * 5) (pc q v8)):=by
 have hk:=zb4 hq
 have hw8:wr.grownBy w8 (some bl):=zoe (World.grownBy_alloc wr _ none) hgr
 have hs:wr.heap.size ≤ (wr.alloc (.cells C 40)).heap.size:=by simp
 refine ⟨?_,?_,?_,?_,?_,?_,?_⟩
 · exact ((h.x.grown hw8 (by simp;omega))).setsFar _ _ (by omega)
 · exact ((h.z.grown hw8 (by simp;omega))).setsFar _ _ (by omega)
 · rw [← zro V' kids k q v8 hq]
   have hr:=h.row.kept hw8 (.inr (by simp [Value.ownBlock];omega))
   subst hlen
   exact zig _ _ hr (by simp [pc];omega)
 · intro i p hi hp
   by_cases e:i = k
   · subst e
     rw [hq] at hp;cases hp
     rw [zbr]
     exact (hL.mono' (by simp;omega)).setsAt (by omega) _ _
   · rw [zbb _ _ e]
     exact ((h.done i p (by omega) hp).grown hw8 (by omega)).setsAt (by omega) _ _
 · intro i hi
   rw [zbb _ _ (by omega)]
   exact h.left i (by omega)
 · have e:=Pr.sizes_take hq
   have e2:n - kids.length + ((k + 1:Nat):Int) - ((Pr.sizes (kids.take (k + 1)):Nat):Int) = n - kids.length + k - Pr.sizes (kids.take k) + 1 - q.size:=by rw [e];omega
   rw [e2]
   exact ⟨han.l.setsFar _ _ (by omega),han.a.setsFar _ _ (by omega)⟩
 · exact zju (by omega) _ _ (zfz h.gr hw8)
theorem zq0 {a w:World} {row:Option Nat} {b o:Nat} (hb:a.heap.size ≤ b) (v:Value) (h:a.grownBy w row):a.grownBy (w.setCell ⟨b,o,none⟩ v) row:=zju hb [v] o h
theorem An.setFar {w:World} {bl ba:Nat} {n:Int} (h:An w bl ba n) {b o:Nat} (v:Value) (h1:bl ≠ b) (h2:ba ≠ b):An (w.setCell ⟨b,o,none⟩ v) bl ba n:=⟨h.l.setFar _ _ h1,h.a.setFar _ _ h2⟩
theorem zty {w:World} {base base' size n:Nat} {e:TypeId} {v:Value} {xs:List Value} (h:w.ownsRow base e size v n xs) (hb:base' ≤ base):w.ownsRow base' e size v n xs:=by
 obtain ⟨h1,h2⟩:=h
 refine ⟨h1,?_⟩
 rcases h2 with h2 | ⟨g,cap,cur,hv,hg,r⟩
 · exact .inl h2
 · exact .inr ⟨g,cap,cur,hv,Nat.le_trans hb hg,r⟩
theorem zql {w w3 W2:World} {kids:List Pr} {bl ba:Nat} {n:Int} {V:Nat → Value} {o3:Option Addr} {len c3 g:Nat} {op:Int} {t:ByteArray} {nn:Int} {x y:Nat} {oa:Option Addr} {l0 cap:Nat} {Z:Array Value}
   (hx:Own w3 w.heap.size #[.int .i64 op,.string t,.int .i64 nn,.complex .f64 x y,.slice oa l0 cap] 40) (hz:Own w3 (w.heap.size + 1) Z 40) (ha:An w3 bl ba (n - len)) (hg:w.grownBy w3 (some bl))
   (hr:w3.ownsRow W2.heap.size 40 5 (.slice o3 len c3) len (zar V 0 kids)) (hW:w.heap.size + 2 ≤ W2.heap.size) (hlen:kids.length = len) (zl:bl < w.heap.size) (za:ba < w.heap.size) :
   AnS w kids bl ba n #[.int .i64 op,.string t,.int .i64 nn,.complex .f64 x y,.slice o3 len c3] Z V (.slice o3 len c3) g 0 V (w3.setCell ⟨w.heap.size,4,none⟩ (.slice o3 len c3)):=by
 subst hlen
 refine ⟨?_,hz.setFar _ _ (by show w.heap.size + 1 ≠ w.heap.size;omega),?_,fun i q hi=>absurd hi (by omega),fun _ _=>rfl,?_,zq0 (Nat.le_refl _) _ hg⟩
 · simpa using hx.set 4 (.slice o3 kids.length c3)
 · exact ownsRow_setCell_below (zty hr hW) (by show w.heap.size < w.heap.size + 2;omega) _
 · have e:n - (kids.length:Int) + ((0:Nat):Int) - ((Pr.sizes (kids.take 0):Nat):Int) = n - kids.length:=by simp [Pr.sizes]
   rw [e]
   exact ha.setFar _ (by omega) (by omega)
theorem zr6 {b:Nat} (vs:List Value):∀ {w:World} (o:Nat),(w.setCells b o vs).heap.size = w.heap.size:=by
 induction vs with
 | nil=>intro w o;rfl
 | cons v vs ih=>intro w o;exact (ih (o + 1)).trans (by simp [World.setCell])
theorem AnS.fin {w wr:World} {kids:List Pr} {bl ba:Nat} {n:Int} {X Z:Array Value} {V V':Nat → Value} {o3:Option Addr} {len c3 g B3 B4:Nat} {op:Int} {t:ByteArray} {nn:Int} {x y:Nat} (h:AnS w kids bl ba n X Z V (.slice o3 len c3) g len V' wr) (hlen:kids.length = len)
   (hg:0 < len → o3 = some ⟨g,0,none⟩ ∧ B3 ≤ g ∧ g < B4) (hZ:5 = Z.size) (zl:bl < w.heap.size) (za:ba < w.heap.size) (ht:t.size ≤ maxLen) (h1:len ≤ c3) (h2:c3 ≤ maxLen) :
   Own (wr.setCells (w.heap.size + 1) 0 (pc (.node op t nn x y kids) (.slice o3 len c3))) (w.heap.size + 1) (pc (.node op t nn x y kids) (.slice o3 len c3)).toArray 40 ∧ LPF (wr.setCells (w.heap.size + 1) 0 (pc (.node op t nn x y kids) (.slice o3 len c3))) w.heap.size (.node op t nn x y kids) (.slice o3 len c3) ∧
     w.grownBy (wr.setCells (w.heap.size + 1) 0 (pc (.node op t nn x y kids) (.slice o3 len c3))) (some bl) ∧ An (wr.setCells (w.heap.size + 1) 0 (pc (.node op t nn x y kids) (.slice o3 len c3))) bl ba (n + 1 - (Pr.node op t nn x y kids).size):=by
 generalize hvs:pc (.node op t nn x y kids) (.slice o3 len c3) = vs
 have hl5:vs.length = Z.size:=by rw [← hvs,← hZ];rfl
 have hgr:=zju (b:=w.heap.size + 1) (by omega) vs 0 h.gr
 have hsz:(wr.setCells (w.heap.size + 1) 0 vs).heap.size = wr.heap.size:=zr6 _ _
 refine ⟨h.z.sets vs hl5,?_,hgr,?_⟩
 · have hrow:=h.row
   rw [hlen] at hrow
   subst hlen
   refine .mk op t nn x y kids o3 c3 g 0 V' ht h1 h2 (fun h0=>?_) (fun i q hq j u hu=>?_) (fun i q hq=>?_)
   · obtain ⟨rfl,_,_⟩:=hg h0
     have:=hrow.lt g rfl
     exact ⟨rfl,by omega,by rw [hsz];exact this.2⟩
   · have hi:=zb4 hq
     obtain ⟨rfl,_,_⟩:=hg (by omega)
     have hlt:=hrow.lt g rfl
     rw [World.cell?_setCells_out _ _ _ _ _ (fun e _=>by simp only at e;omega),Nat.zero_add]
     exact zr3 hrow rfl hq hi hu
   · have hi:=zb4 hq
     obtain ⟨rfl,_,_⟩:=hg (by omega)
     have hlt:=hrow.lt g rfl
     exact ((h.done i q hi hq).setsAt (by omega) vs 0).mono' (by omega)
 · have e:n - (kids.length:Int) + ((len:Nat):Int) - ((Pr.sizes (kids.take len):Nat):Int) = n + 1 - ((Pr.node op t nn x y kids).size:Nat):=by
     rw [List.take_of_length_le (by omega)];simp only [Pr.size];omega
   have ha:=h.an
   rw [e] at ha
   exact ⟨ha.l.setsFar _ _ (by omega),ha.a.setsFar _ _ (by omega)⟩
theorem zoz (p:Pr) (bl ba:Nat):∀ (v:Value) (w:World) (n:Int),Lies 5 pc (fun b=>b < bl) w p v → An w bl ba n → (p.size:Int) ≤ n → n ≤ 100000 → p.size ≤ 1000 →
   Calls Tryz.prog 95 #[prV p v,.pointer (some ⟨bl,0,none⟩),.pointer (some ⟨ba,0,none⟩)] w (zln p bl ba n w):=by
 induction p using Pr.ind with
 | h op t nn x y kids ih =>
   intro v w n hL hA hsz hn1 hs1
   obtain ⟨oa,cap,b,o,V,rfl,ht,hl,hc,hn,hcell,hrec⟩:=zbh hL
   simp only [prV,Pr.kids_node,Pr.text_node,Pr.op_node,Pr.n_node,Pr.x_node,Pr.y_node,Pr.size] at *
   have h1000:=Pr.len_le_sizes kids
   have zl:=hA.l.lt
   have za:=hA.a.lt
   have s1:(w.setCell ⟨bl,0,none⟩ (.int .i64 (n - kids.length))).heap.size = w.heap.size:=by simp [World.setCell]
   have s2:((w.setCell ⟨bl,0,none⟩ (.int .i64 (n - kids.length))).alloc (.cells #[.int .i64 op,.string t,.int .i64 nn,.complex .f64 x y,.slice oa kids.length cap] 40)).heap.size = w.heap.size + 1:=by simp [World.setCell]
   have PP:=y35h (And.intro ((Own.newAt (w.setCell ⟨bl,0,none⟩ (.int .i64 (n - kids.length))) #[.int .i64 op,.string t,.int .i64 nn,.complex .f64 x y,.slice oa kids.length cap] 40 (b:=w.heap.size) s1).alloc (.cells #[.int .i64 0,.string ⟨#[]⟩,.int .i64 0,.complex .f64 0 0,.slice none 0 0] 40)) (And.intro (Own.newAt ((w.setCell ⟨bl,0,none⟩ (.int .i64 (n - kids.length))).alloc (.cells #[.int .i64 op,.string t,.int .i64 nn,.complex .f64 x y,.slice oa kids.length cap] 40)) #[.int .i64 0,.string ⟨#[]⟩,.int .i64 0,.complex .f64 0 0,.slice none 0 0] 40 (b:=w.heap.size + 1) s2) (And.intro (((hA.set (n - kids.length)).alloc (.cells #[.int .i64 op,.string t,.int .i64 nn,.complex .f64 x y,.slice oa kids.length cap] 40)).alloc (.cells #[.int .i64 0,.string ⟨#[]⟩,.int .i64 0,.complex .f64 0 0,.slice none 0 0] 40)) (zfz (zfz (zws (w:=w) (b:=bl) (o:=0) (.int .i64 (n - kids.length))) (World.grownBy_alloc _ (.cells #[.int .i64 op,.string t,.int .i64 nn,.complex .f64 x y,.slice oa kids.length cap] 40) (some bl))) (World.grownBy_alloc _ (.cells #[.int .i64 0,.string ⟨#[]⟩,.int .i64 0,.complex .f64 0 0,.slice none 0 0] 40) (some bl))))))
   have zz:w.heap.size + 1 < (((w.setCell ⟨bl,0,none⟩ (.int .i64 (n - kids.length))).alloc (.cells #[.int .i64 op,.string t,.int .i64 nn,.complex .f64 x y,.slice oa kids.length cap] 40)).alloc (.cells #[.int .i64 0,.string ⟨#[]⟩,.int .i64 0,.complex .f64 0 0,.slice none 0 0] 40)).heap.size:=by simp [World.setCell]
   have ZZ:=y35h zz
   have HAL:=y35h hA.l
   have HC:=y35h hcell
   have HR:=y35h hrec
   have HN:=y35h hn
   have HI:=y35h ih
   have HT:=y35h ht
   have HCP:=y35h hc
   clear hL hcell hrec hn ih ht hA s1 s2 zz
   unfold maxLen at hc
   generalize hlen:kids.length = len at *
   have HLEN:=y35h hlen
   clear hlen
   have cl:=HAL.out.cell
   have fl:=HAL.out.free
   go_enter Tryz.func95,Tryz.ntmps95
   go_upto_region 2 with fail
   clear cl fl HAL
   revert PP ZZ
   generalize World.alloc (World.alloc (World.setCell _ _ _) _) _ = W2
   intro PP ZZ
   obtain ⟨ox,oz,an,gr⟩:=PP.out
   have OX:=y35h ox
   have OZ:=y35h oz
   have AN:=y35h an
   have GR:=y35h gr
   clear ox oz an gr PP
   have cl:=AN.out.l.cell
   have zl2:=AN.out.l.lt
   have cx:=OX.out.cell
   have fx:=OX.out.free
   have zx:=OX.out.lt
   have g0:decide (n - (len:Int) < 0) = false:=decide_eq_false (by omega)
   have CLN:=y35h (zlu kids V oa cap b o W2 HCP.out (fun h=>⟨(HN.out (by rw [← HLEN.out];exact h)).1,by have:=(HN.out (by rw [← HLEN.out];exact h)).2;have:=ZZ.out;omega⟩) (fun i p hp j u hu=>(zhc GR.out (by have:=(HN.out (by rw [← HLEN.out];have:=zb4 hp;omega)).2;omega) (by have:=(HN.out (by rw [← HLEN.out];have:=zb4 hp;omega)).2;simp only [ne_eq,Option.some.injEq];omega) _).trans (HC.out i p hp j u hu)) (fun i p hp=>za2 (HR.out i p hp)) (by rw [HLEN.out];omega))
   rw [HLEN.out] at CLN
   go_upto_region 5 with (go_at_call 96;refine CLN.out.mono ?_;rintro e w3 ⟨v3,rfl,hrow,hb3⟩;have hrow0:=y35h hrow;obtain ⟨o3,c3,g,rfl,r1,r2,r3⟩:=zan hrow;clear cl zl2 cx fx zx hrow;replace OX:=y35h (OX.out.later hb3);replace OZ:=y35h (OZ.out.later hb3);replace AN:=y35h (AN.out.later hb3);replace GR:=y35h (zs5 GR.out hb3 (by have:=GR.out.size;omega));have HG:=y35h r3;have HB3:=y35h hb3.size;have cx:=OX.out.cell;have fx:=OX.out.free;have zx:=OX.out.lt;clear hb3 r3)
   unfold maxLen at r2
   have AS:=y35h (zql (V:=V) (kids:=kids) (o3:=o3) (len:=len) (c3:=c3) (g:=g) (op:=op) (t:=t) (nn:=nn) (x:=x) (y:=y) OX.out OZ.out AN.out GR.out hrow0.out (by have:=ZZ.out;omega) HLEN.out zl za)
   clear cx fx zx OX OZ AN GR hrow0 CLN g0
   revert AS
   generalize World.setCell w3 ⟨w.heap.size,4,none⟩ (.slice o3 len c3) = W4
   intro AS
   have cx:=AS.out.x.cell
   have zx:=AS.out.x.lt
   go_wp2_with fail
   go_loopw [22] (fun i wr=>zxd w kids len bl ba n #[.int .i64 op,.string t,.int .i64 nn,.complex .f64 x y,.slice o3 len c3] #[.int .i64 0,.string ⟨#[]⟩,.int .i64 0,.complex .f64 0 0,.slice none 0 0] V (.slice o3 len c3) g i wr) (fun i _=>len - (intOf i).toNat)
   case atStart=>exact ⟨0,V,Nat.zero_le _,rfl,AS⟩
   case round =>
     clear AS cx zx
     obtain ⟨k,V',hk,rfl,AS⟩:=hrel
     by_cases hlt:k < len
     · obtain ⟨q,hq⟩:∃ q,kids[k]? = some q:=⟨_,List.getElem?_eq_getElem (by rw [HLEN.out];exact hlt)⟩
       obtain ⟨rfl,_,_⟩:=HG.out (by omega)
       have hrow:=AS.out.row
       rw [HLEN.out] at hrow
       have zg:w.heap.size + 2 ≤ g ∧ g < wr.heap.size:=AS.out.row.lt g rfl
       obtain ⟨oq,cq,hV⟩:=zam (HR.out k q hq)
       have hVk:V' k = .slice oq q.kids.length cq:=(AS.out.left k (Nat.le_refl _)).trans hV
       obtain ⟨c0,c1,c2,c3',c4⟩:=zc1 (w:=wr) (q:=q) (v:=V' k) (b:=g) (o:=k * 5) (fun j u hu=>by
         have hj:j < 5:=(List.getElem?_eq_some_iff.1 hu).1
         rw [hrow.cellAt (k * 5 + j) (by omega),zel _ _ _ _ _ hq _ hj,Nat.zero_add]
         exact hu)
       have L0:=(HR.out k q hq).mono (S':=fun b=>b < bl) (w':=(wr.alloc (.cells #[.int .i64 q.op,.string q.text,.int .i64 q.n,.complex .f64 q.x q.y,.slice oq q.kids.length cq] 40)).drew) (fun b o hS=>zhc (w:=(wr.alloc (.cells #[.int .i64 q.op,.string q.text,.int .i64 q.n,.complex .f64 q.x q.y,.slice oq q.kids.length cq] 40))) (zfz AS.out.gr (World.grownBy_alloc wr (.cells #[.int .i64 q.op,.string q.text,.int .i64 q.n,.complex .f64 q.x q.y,.slice oq q.kids.length cq] 40) (some bl))) (by omega) (by simp only [ne_eq,Option.some.injEq];omega) o) (fun _ h=>h)
       rw [hV] at L0
       rw [hVk] at c4
       have hqs:=Pr.size_mem (List.mem_of_getElem? hq)
       have h3:=Pr.sizes_take hq
       have h4:Pr.sizes kids = Pr.sizes (kids.take (k + 1)) + Pr.sizes (kids.drop (k + 1)):=by rw [← Pr.sizes_append,List.take_append_drop]
       have h5:=Pr.len_le_sizes (kids.drop (k + 1))
       rw [List.length_drop,HLEN.out] at h5
       have CC0:=HI.out q (List.mem_of_getElem? hq) (.slice oq q.kids.length cq) _ _ L0 (AS.out.an.alloc _).drew (by rw [HLEN.out];omega) (by rw [HLEN.out];omega) (by omega)
       unfold zln at CC0
       have CC:=y35h CC0
       clear CC0
       have HROW:=y35h hrow
       have HQ:=y35h hq
       have HVK:=y35h hVk
       have OX:=y35h (AS.out.x.alloc (.cells #[.int .i64 q.op,.string q.text,.int .i64 q.n,.complex .f64 q.x q.y,.slice oq q.kids.length cq] 40))
       have AN:=y35h (AS.out.an.a.alloc (.cells #[.int .i64 q.op,.string q.text,.int .i64 q.n,.complex .f64 q.x q.y,.slice oq q.kids.length cq] 40))
       have OQ:=y35h (Own.new wr #[.int .i64 q.op,.string q.text,.int .i64 q.n,.complex .f64 q.x q.y,.slice oq q.kids.length cq] 40)
       have hb1:w.heap.size ≠ bl:=by omega
       have hb2:ba ≠ bl:=fun e=>AS.out.an.ne e.symm
       have hb3:wr.heap.size ≠ bl:=by have:=AS.out.gr.size;omega
       have hg1:w.heap.size ≠ g:=by omega
       have hg2:ba ≠ g:=by omega
       have hg3:wr.heap.size ≠ g:=by omega
       have zg1:=zg.2
       clear L0 h3 h4 h5 hV hVk hrow
       go_upto_region 8 with fail
       clear c0 c1 c2 c3' c4
       go_region_held3 (fun w'=>(∀ o,w'.cell? ⟨w.heap.size,o,none⟩ = (#[.int .i64 op,.string t,.int .i64 nn,.complex .f64 x y,.slice (some ⟨g,0,none⟩) len c3]:Array Value)[o]?) ∧ (∀ o,w'.cell? ⟨ba,o,none⟩ = (#[.func (Fn.func 95) #[] #[.pointer (some ⟨bl,0,none⟩),.pointer (some ⟨ba,0,none⟩)]]:Array Value)[o]?) ∧ (∀ o,w'.cell? ⟨wr.heap.size,o,none⟩ = (#[.int .i64 q.op,.string q.text,.int .i64 q.n,.complex .f64 q.x q.y,.slice oq q.kids.length cq]:Array Value)[o]?)) (first | with_reducible exact ⟨OX8.out.cell,AN8.out.cell,OQ8.out.cell⟩ | with_reducible exact ⟨(OX8.out.far5 hg1 _ _ _ _ _ _ _ _ _ _).cell,(AN8.out.far5 hg2 _ _ _ _ _ _ _ _ _ _).cell,(OQ8.out.far5 hg3 _ _ _ _ _ _ _ _ _ _).cell⟩ | with_reducible exact ⟨OX.out.cell,AN.out.cell,OQ.out.cell⟩ | with_reducible exact ⟨OX.out.drew.cell,AN.out.drew.cell,OQ.out.drew.cell⟩) (first
         | (go_simp;go_at_call 95;with_reducible refine CC.out.mono ?_;rintro e w8 ⟨v8,rfl,hL8,hg8,ha8⟩;obtain ⟨o8,c8,rfl⟩:=zam hL8.lp;have OX8:=y35h (OX.out.grownD hg8 hb1);have AN8:=y35h (AN.out.grownD hg8 hb2);have OQ8:=y35h (OQ.out.grownD hg8 hb3);have hg9:=zoe (World.grownBy_alloc wr _ none) (zkj hg8);have hrow8:=HROW.out.kept hg9 (.inr (by simp only [Value.ownBlock,ne_eq,Option.some.injEq];omega));have fg:=zep hrow8;have zg8:=(hrow8.lt g rfl).2;obtain ⟨e0,e1,e2,e3,e4⟩:=zc1 (w:=w8) (q:=q) (v:=V' k) (b:=g) (o:=k * 5) (fun j u hu=>zr3 hrow8 HLEN.out HQ.out hlt hu);rw [HVK.out] at e4;clear hrow8;have HL8:=y35h hL8;have HG8:=y35h hg8;have HA8:=y35h ha8;clear hL8 hg8 ha8)
         | fail)
       have KEY:Hid (AnS w kids bl ba n #[.int .i64 op,.string t,.int .i64 nn,.complex .f64 x y,.slice (some ⟨g,0,none⟩) len c3] #[.int .i64 0,.string ⟨#[]⟩,.int .i64 0,.complex .f64 0 0,.slice none 0 0] V (.slice (some ⟨g,0,none⟩) len c3) g (k + 1) (updU V' k (.slice o8 q.kids.length c8)) (((((w8.setCell ⟨g,k * 5,none⟩ (.int .i64 q.op)).setCell ⟨g,k * 5 + 1,none⟩ (.string q.text)).setCell ⟨g,k * 5 + 2,none⟩ (.int .i64 q.n)).setCell ⟨g,k * 5 + 3,none⟩ (.complex .f64 q.x q.y)).setCell ⟨g,k * 5 + 4,none⟩ (.slice o8 q.kids.length c8))) :=
         y35h (AnS.step AS.out HLEN.out zl za zg.1 zg.2 HQ.out HL8.out (zkj HG8.out) HA8.out)
       revert KEY
       clear e0 e1 e2 e3 e4 fg zg8 OX8 AN8 OQ8 HL8 HG8 HA8 hg9 CC OX AN OQ AS
       generalize World.setCell (World.setCell (World.setCell (World.setCell (World.setCell _ _ _) _ _) _ _) _ _) _ _ = W5
       intro KEY
       go_wp2_with fail
       go_roundw
       case rel=>exact ⟨k + 1,_,by omega,by go_num,KEY⟩
       case measure=>simp [intOf];omega
     · have e:k = len:=by omega
       subst e
       have cx:=AS.out.x.cell
       have fx:=AS.out.x.free
       have zx:=AS.out.x.lt
       have cz:=AS.out.z.cell
       have fz:=AS.out.z.free
       have zz:=AS.out.z.lt
       go_wp2_with fail
       have KEY:=y35h (AnS.fin (op:=op) (t:=t) (nn:=nn) (x:=x) (y:=y) AS.out HLEN.out HG.out (by rfl) zl za HT.out r1 r2)
       clear cx fx zx cz fz zz AS
       have KEY2:Hid (Own (((((wr.setCell ⟨w.heap.size + 1,0,none⟩ (.int .i64 op)).setCell ⟨w.heap.size + 1,1,none⟩ (.string t)).setCell ⟨w.heap.size + 1,2,none⟩ (.int .i64 nn)).setCell ⟨w.heap.size + 1,3,none⟩ (.complex .f64 x y)).setCell ⟨w.heap.size + 1,4,none⟩ (.slice o3 k c3)) (w.heap.size + 1) #[.int .i64 op,.string t,.int .i64 nn,.complex .f64 x y,.slice o3 k c3] 40 ∧ ∃ v',.slice o3 k c3 = v' ∧ LPF (((((wr.setCell ⟨w.heap.size + 1,0,none⟩ (.int .i64 op)).setCell ⟨w.heap.size + 1,1,none⟩ (.string t)).setCell ⟨w.heap.size + 1,2,none⟩ (.int .i64 nn)).setCell ⟨w.heap.size + 1,3,none⟩ (.complex .f64 x y)).setCell ⟨w.heap.size + 1,4,none⟩ (.slice o3 k c3)) w.heap.size (.node op t nn x y kids) v' ∧ w.grownBy (((((wr.setCell ⟨w.heap.size + 1,0,none⟩ (.int .i64 op)).setCell ⟨w.heap.size + 1,1,none⟩ (.string t)).setCell ⟨w.heap.size + 1,2,none⟩ (.int .i64 nn)).setCell ⟨w.heap.size + 1,3,none⟩ (.complex .f64 x y)).setCell ⟨w.heap.size + 1,4,none⟩ (.slice o3 k c3)) (some bl) ∧ An (((((wr.setCell ⟨w.heap.size + 1,0,none⟩ (.int .i64 op)).setCell ⟨w.heap.size + 1,1,none⟩ (.string t)).setCell ⟨w.heap.size + 1,2,none⟩ (.int .i64 nn)).setCell ⟨w.heap.size + 1,3,none⟩ (.complex .f64 x y)).setCell ⟨w.heap.size + 1,4,none⟩ (.slice o3 k c3)) bl ba (n + 1 - (Pr.node op t nn x y kids).size)):=y35h ⟨KEY.out.1,_,rfl,KEY.out.2.1,KEY.out.2.2.1,KEY.out.2.2.2⟩
       clear KEY
       revert KEY2
       generalize World.setCell (World.setCell (World.setCell (World.setCell (World.setCell _ _ _) _ _) _ _) _ _) _ _ = W5
       intro KEY
       have lf:=KEY.out.1.cell
       obtain ⟨_,rfl,hk1,hk2,hk3⟩:=KEY.out.2
       exact bodyPost_ret (v:=.agg #[.int .i64 op,.string t,.int .i64 nn,.complex .f64 x y,.slice o3 k c3]) (by simp [results,Tryz.results95,go_sem,lf]) rfl ⟨_,rfl,hk1,hk2,hk3⟩
theorem zdd (p:Pr) (v:Value) (w:World) (hL:LP w p v) (hsz:p.size ≤ 1000) :
   Calls Tryz.prog 46 #[prV p v] w fun e w'=>∃ v',e = .returned (prV p v') ∧ LPF w' w.heap.size p v' ∧ Below w.heap.size w w':=by
 obtain ⟨oa,cap,rfl⟩:=zam hL
 have AN:An ((((w.alloc (.cells #[.int .i64 p.op,.string p.text,.int .i64 p.n,.complex .f64 p.x p.y,.slice oa p.kids.length cap] 40)).alloc (.cells #[.int .i64 0,.string ⟨#[]⟩,.int .i64 0,.complex .f64 0 0,.slice none 0 0] 40)).alloc (.cells #[.int .i64 65536] 3)).alloc (.cells #[.func (Fn.func 95) #[] #[.pointer (some ⟨w.heap.size + 1 + 1,0,none⟩),.pointer (some ⟨w.heap.size + 1 + 1 + 1,0,none⟩)]] 89)) (w.heap.size + 1 + 1) (w.heap.size + 1 + 1 + 1) 65536:=⟨(Own.newAt ((w.alloc (.cells #[.int .i64 p.op,.string p.text,.int .i64 p.n,.complex .f64 p.x p.y,.slice oa p.kids.length cap] 40)).alloc (.cells #[.int .i64 0,.string ⟨#[]⟩,.int .i64 0,.complex .f64 0 0,.slice none 0 0] 40)) #[.int .i64 65536] 3 (by simp)).alloc _,Own.newAt (((w.alloc (.cells #[.int .i64 p.op,.string p.text,.int .i64 p.n,.complex .f64 p.x p.y,.slice oa p.kids.length cap] 40)).alloc (.cells #[.int .i64 0,.string ⟨#[]⟩,.int .i64 0,.complex .f64 0 0,.slice none 0 0] 40)).alloc (.cells #[.int .i64 65536] 3)) #[.func (Fn.func 95) #[] #[.pointer (some ⟨w.heap.size + 1 + 1,0,none⟩),.pointer (some ⟨w.heap.size + 1 + 1 + 1,0,none⟩)]] 89 (by simp)⟩
 have OP:=y35h ((((Own.new w #[.int .i64 p.op,.string p.text,.int .i64 p.n,.complex .f64 p.x p.y,.slice oa p.kids.length cap] 40).alloc (.cells #[.int .i64 0,.string ⟨#[]⟩,.int .i64 0,.complex .f64 0 0,.slice none 0 0] 40)).alloc (.cells #[.int .i64 65536] 3)).alloc (.cells #[.func (Fn.func 95) #[] #[.pointer (some ⟨w.heap.size + 1 + 1,0,none⟩),.pointer (some ⟨w.heap.size + 1 + 1 + 1,0,none⟩)]] 89))
 have OZ:=y35h (((Own.newAt (w.alloc (.cells #[.int .i64 p.op,.string p.text,.int .i64 p.n,.complex .f64 p.x p.y,.slice oa p.kids.length cap] 40)) #[.int .i64 0,.string ⟨#[]⟩,.int .i64 0,.complex .f64 0 0,.slice none 0 0] 40 (b:=w.heap.size + 1) (by simp)).alloc (.cells #[.int .i64 65536] 3)).alloc (.cells #[.func (Fn.func 95) #[] #[.pointer (some ⟨w.heap.size + 1 + 1,0,none⟩),.pointer (some ⟨w.heap.size + 1 + 1 + 1,0,none⟩)]] 89))
 have B4:Below w.heap.size w ((((w.alloc (.cells #[.int .i64 p.op,.string p.text,.int .i64 p.n,.complex .f64 p.x p.y,.slice oa p.kids.length cap] 40)).alloc (.cells #[.int .i64 0,.string ⟨#[]⟩,.int .i64 0,.complex .f64 0 0,.slice none 0 0] 40)).alloc (.cells #[.int .i64 65536] 3)).alloc (.cells #[.func (Fn.func 95) #[] #[.pointer (some ⟨w.heap.size + 1 + 1,0,none⟩),.pointer (some ⟨w.heap.size + 1 + 1 + 1,0,none⟩)]] 89)):=((((Below.refl w.heap.size w).alloc (Nat.le_refl _) _).alloc (by simp) _).alloc (by simp;omega) _).alloc (by simp;omega) _
 have s4:((((w.alloc (.cells #[.int .i64 p.op,.string p.text,.int .i64 p.n,.complex .f64 p.x p.y,.slice oa p.kids.length cap] 40)).alloc (.cells #[.int .i64 0,.string ⟨#[]⟩,.int .i64 0,.complex .f64 0 0,.slice none 0 0] 40)).alloc (.cells #[.int .i64 65536] 3)).alloc (.cells #[.func (Fn.func 95) #[] #[.pointer (some ⟨w.heap.size + 1 + 1,0,none⟩),.pointer (some ⟨w.heap.size + 1 + 1 + 1,0,none⟩)]] 89)).heap.size = w.heap.size + 4:=by simp
 have CC0:=zoz p (w.heap.size + 1 + 1) (w.heap.size + 1 + 1 + 1) (.slice oa p.kids.length cap) ((((w.alloc (.cells #[.int .i64 p.op,.string p.text,.int .i64 p.n,.complex .f64 p.x p.y,.slice oa p.kids.length cap] 40)).alloc (.cells #[.int .i64 0,.string ⟨#[]⟩,.int .i64 0,.complex .f64 0 0,.slice none 0 0] 40)).alloc (.cells #[.int .i64 65536] 3)).alloc (.cells #[.func (Fn.func 95) #[] #[.pointer (some ⟨w.heap.size + 1 + 1,0,none⟩),.pointer (some ⟨w.heap.size + 1 + 1 + 1,0,none⟩)]] 89)) 65536 (hL.mono (fun b o hS=>B4.cell (p:=⟨b,o,none⟩) hS) (fun b hS=>by omega)) AN (by omega) (by omega) hsz
 unfold zln at CC0
 rw [s4] at CC0
 have CC:=y35h CC0
 have BE:=y35h B4
 have S4:=y35h s4
 have AN:=y35h AN
 clear CC0 B4 hL s4
 have lp:=OP.out.cell
 have zp:=OP.out.lt
 have la:=AN.out.a.cell
 have za:=AN.out.a.lt
 go_enter Tryz.func46,Tryz.ntmps46
 go_wp2_with fail
 refine CC.out.mono ?_
 rintro e w8 ⟨v8,rfl,hL8,hg8,ha8⟩
 obtain ⟨o8,c8,rfl⟩:=zam hL8.lp
 have OZ8:=y35h (OZ.out.grown hg8 (by simp))
 have BE8:=y35h (BE.out.trans ((zne hg8 (Nat.le_refl _) (by rw [S4.out];omega)).mono (by omega)))
 have HL8:=y35h hL8
 clear lp zp la za hL8 hg8 ha8
 have cz:=OZ8.out.cell
 have fz:=OZ8.out.free
 have zz:=OZ8.out.lt
 go_wp2_with fail
 have KEY:Hid (Own (((((w8.setCell ⟨w.heap.size + 1,0,none⟩ (.int .i64 p.op)).setCell ⟨w.heap.size + 1,1,none⟩ (.string p.text)).setCell ⟨w.heap.size + 1,2,none⟩ (.int .i64 p.n)).setCell ⟨w.heap.size + 1,3,none⟩ (.complex .f64 p.x p.y)).setCell ⟨w.heap.size + 1,4,none⟩ (.slice o8 p.kids.length c8)) (w.heap.size + 1) #[.int .i64 p.op,.string p.text,.int .i64 p.n,.complex .f64 p.x p.y,.slice o8 p.kids.length c8] 40 ∧ LPF (((((w8.setCell ⟨w.heap.size + 1,0,none⟩ (.int .i64 p.op)).setCell ⟨w.heap.size + 1,1,none⟩ (.string p.text)).setCell ⟨w.heap.size + 1,2,none⟩ (.int .i64 p.n)).setCell ⟨w.heap.size + 1,3,none⟩ (.complex .f64 p.x p.y)).setCell ⟨w.heap.size + 1,4,none⟩ (.slice o8 p.kids.length c8)) w.heap.size p (.slice o8 p.kids.length c8) ∧ Below w.heap.size w (((((w8.setCell ⟨w.heap.size + 1,0,none⟩ (.int .i64 p.op)).setCell ⟨w.heap.size + 1,1,none⟩ (.string p.text)).setCell ⟨w.heap.size + 1,2,none⟩ (.int .i64 p.n)).setCell ⟨w.heap.size + 1,3,none⟩ (.complex .f64 p.x p.y)).setCell ⟨w.heap.size + 1,4,none⟩ (.slice o8 p.kids.length c8))):=y35h ⟨OZ8.out.sets (pc p (.slice o8 p.kids.length c8)) rfl,((HL8.out.setsAt (b:=w.heap.size + 1) (by omega) (pc p (.slice o8 p.kids.length c8)) 0).mono' (by omega)),zab (b:=w.heap.size + 1) (by omega) (pc p (.slice o8 p.kids.length c8)) 0 BE8.out⟩
 clear cz fz zz OZ8 BE8 HL8
 revert KEY
 generalize World.setCell (World.setCell (World.setCell (World.setCell (World.setCell _ _ _) _ _) _ _) _ _) _ _ = W5
 intro KEY
 have lf:=KEY.out.1.cell
 exact bodyPost_ret (v:=.agg #[.int .i64 p.op,.string p.text,.int .i64 p.n,.complex .f64 p.x p.y,.slice o8 p.kids.length c8]) (by simp [results,Tryz.results46,go_sem,lf]) rfl ⟨_,rfl,KEY.out.2.1,KEY.out.2.2⟩
end Go.Proofs.YthnllikalobmeaaGreat
