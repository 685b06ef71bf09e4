/- Joined: StGood2, RefSt10. -/
import Derived.Test.YthnllikalobmeaaGreatK33
import Derived.Test.YthnllikalobmeaaGreatK17
namespace Go.Proofs.YthnllikalobmeaaGreat
set_option linter.unusedVariables false
set_option linter.unusedSimpArgs false
set_option maxRecDepth 100000
set_option maxHeartbeats 8000000
open Go.RowKit
theorem y34h {p:Prop} (h:p):Hid p:=Lib.hid h
theorem zsk {s:St} (h:Good s) {i:Itm} (hi:i ∈ s.store ∨ i ∈ s.out):zag s i.id = (i,true):=by
 rcases zfq h i.id with ⟨j,hj,e,hq⟩ | ⟨j,hj,e,hq⟩ | ⟨h1,h2,_⟩
 · rw [hq]
   rcases hi with hi | hi
   · rw [zet h.rs hj hi e]
   · exact absurd e (h.tw i hi j hj)
 · rw [hq]
   rcases hi with hi | hi
   · exact absurd e.symm (h.tw j hj i hi)
   · rw [zet h.ro hj hi e]
 · rcases hi with hi | hi
   · exact absurd rfl (h1 i hi)
   · exact absurd rfl (h2 i hi)
def filE (s:St) (f:Pr):Int:=if Pr.mayB f = true ∧ ¬(s.f.op = 1 ∧ f.op ≠ 1) then (if s.epoch = 1000000 then 5 else 0) else 1
def filB (s:St) (f:Pr):St:=⟨s.r,f,[],[],⟨zad,[]⟩,s.count,s.clock,s.epoch + 1⟩
def filW (t:St) (x:Itm):St:=⟨t.r,t.f,t.store,t.out,zai (zap t.k x.id x.r x.c),t.count,t.clock,t.epoch⟩
def filP (t:St) (x:Itm):St:=zm5 (filW t x) x true
def filF (s:St) (f:Pr):St:=(zas behT s.store s.out).foldl filP (filB s f)
def filS (s:St) (f:Pr):St:=if filE s f = 0 then filF s f else s
structure FilI (s:St) (p:Pr) (u:St) (l:List Itm):Prop where
 r:u.r = s.r
 f:u.f = p
 c:u.count = s.count
 t:u.clock = s.clock
 e:u.epoch = s.epoch + 1
 ms:∀ i,i ∈ u.store ↔ i ∈ l ∧ hasT p i = true
 mo:∀ i,i ∈ u.out ↔ i ∈ l ∧ hasT p i = false
 rs:zao u.store
 ro:zao u.out
 k:mayK zaz u.k = true
 kn:∀ i ∈ l,hasK u.k i.id i.r i.c = true
 b:beyS u.k s.r s.count = false
 n:u.store.length + u.out.length ≤ l.length
theorem zl1:mayK zaz ⟨zad,[]⟩ = true:=by
 have:zai ⟨zad,[]⟩ = ⟨zad,[]⟩:=rfl
 rw [zgm,this]
 exact ⟨⟨zjj _,fun j _=>⟨by show (0:Int) ≤ 0;decide,by show (0:Int) ≤ 1000;decide⟩⟩,fun f hf=>by simp at hf⟩
theorem zyj {s:St} (h:Good s) (f:Pr):FilI s f (filB s f) []:=by
 refine ⟨rfl,rfl,rfl,rfl,rfl,fun i=>?_,fun i=>?_,by simp [filB,zao,Rise],by simp [filB,zao,Rise],zl1,fun i hi=>by simp at hi,?_,by simp [filB]⟩
 · show i ∈ [] ↔ i ∈ [] ∧ _
   simp
 · show i ∈ [] ↔ i ∈ [] ∧ _
   simp
 · rw [beyS_iff]
   have:=h.c
   exact ⟨zdu this.1 fun _=>this.1,fun f hf=>by simp [filB] at hf⟩
theorem zyl {s:St} {f:Pr} {t:St} {l:List Itm} {x:Itm} (hc:0 ≤ s.count) (h:FilI s f t l) (hx:mayT x = true) (hb:x.r = s.r → x.c ≤ s.count) (hn:∀ i ∈ l,i.id ≠ x.id):FilI s f (filP t x) (l ++ [x]):=by
 have hxx:=mayT_iff.1 hx
 have hs:∀ i,i ∈ (filP t x).store ↔ i ∈ l ++ [x] ∧ hasT f i = true:=fun i=>by
   show i ∈ zaq (filW t x) x ↔ _
   unfold zaq
   rw [show hasT (filW t x).f x = hasT f x by rw [show (filW t x).f = t.f from rfl,h.f],show (filW t x).store = t.store from rfl,List.mem_append,List.mem_singleton]
   cases hh:hasT f x with
   | true =>
     rw [if_pos rfl,mem_put,mem_drop,h.ms]
     constructor
     · rintro (e | ⟨⟨⟨e1,e2⟩,_⟩,_⟩)
       · exact ⟨.inr e,by rw [e];exact hh⟩
       · exact ⟨.inl e1,e2⟩
     · rintro ⟨e | e,e2⟩
       · exact .inr ⟨⟨⟨e,e2⟩,hn i e⟩,hn i e⟩
       · exact .inl e
   | false =>
     rw [if_neg (by simp),mem_drop,h.ms]
     constructor
     · rintro ⟨⟨e1,e2⟩,_⟩;exact ⟨.inl e1,e2⟩
     · rintro ⟨e | e,e2⟩
       · exact ⟨⟨e,e2⟩,hn i e⟩
       · rw [e,hh] at e2;cases e2
 have ho:∀ i,i ∈ (filP t x).out ↔ i ∈ l ++ [x] ∧ hasT f i = false:=fun i=>by
   show i ∈ laidOut (filW t x) x true ↔ _
   unfold laidOut
   rw [show hasT (filW t x).f x = hasT f x by rw [show (filW t x).f = t.f from rfl,h.f],show (filW t x).out = t.out from rfl,List.mem_append,List.mem_singleton]
   cases hh:hasT f x with
   | true =>
     rw [if_pos rfl,mem_drop,h.mo]
     constructor
     · rintro ⟨⟨e1,e2⟩,_⟩;exact ⟨.inl e1,e2⟩
     · rintro ⟨e | e,e2⟩
       · exact ⟨⟨e,e2⟩,hn i e⟩
       · rw [e,hh] at e2;cases e2
   | false =>
     rw [if_neg (by simp),if_pos rfl,mem_put,mem_drop,h.mo]
     constructor
     · rintro (e | ⟨⟨⟨e1,e2⟩,_⟩,_⟩)
       · exact ⟨.inr e,by rw [e];exact hh⟩
       · exact ⟨.inl e1,e2⟩
     · rintro ⟨e | e,e2⟩
       · exact .inr ⟨⟨⟨e,e2⟩,hn i e⟩,hn i e⟩
       · exact .inl e
 refine ⟨h.r,h.f,h.c,h.t,h.e,hs,ho,?_,?_,zl0 h.k hxx.1 (by omega),fun i hi=>?_,?_,?_⟩
 · show zao (zaq (filW t x) x)
   unfold zaq
   split
   · exact ze5 (zbf h.rs)
   · exact zbf h.rs
 · show zao (laidOut (filW t x) x true)
   unfold laidOut
   split
   · exact zbf h.ro
   · rw [if_pos rfl];exact ze5 (zbf h.ro)
 · rcases List.mem_append.1 hi with hi | hi
   · exact zpd _ _ _ _ _ _ _ (h.kn i hi)
   · simp at hi;subst hi
     exact zkt _ _ (by omega) (by omega) (by omega)
 · exact zjm hc (zlh hc h.b hb (by omega) (by omega))
 · show (zaq (filW t x) x).length + (laidOut (filW t x) x true).length ≤ (l ++ [x]).length
   have hn:=h.n
   have f1:=zew t.store x.id
   have f2:=zew t.out x.id
   have p1:=zcw (t.store.filter (neB x.id)) x
   have p2:=zcw (t.out.filter (neB x.id)) x
   unfold zaq laidOut
   rw [List.length_append]
   simp only [if_pos,List.length_cons,List.length_nil]
   cases hasT (filW t x).f x with
   | true=>simp only [if_true];show (putI (t.store.filter (neB x.id)) x).length + (t.out.filter (neB x.id)).length ≤ _;omega
   | false=>simp only [Bool.false_eq_true,if_false];show (t.store.filter (neB x.id)).length + (putI (t.out.filter (neB x.id)) x).length ≤ _;omega
theorem zym {s:St} {f:Pr} (hc:0 ≤ s.count) (m:List Itm):∀ {t:St} {l:List Itm},FilI s f t l → zao (l ++ m) → (∀ x ∈ m,mayT x = true ∧ (x.r = s.r → x.c ≤ s.count)) → FilI s f (m.foldl filP t) (l ++ m):=by
 induction m with
 | nil=>intro t l h _ _;rw [List.append_nil];exact h
 | cons x m ih =>
   intro t l h hr hm
   have hn:∀ i ∈ l,i.id ≠ x.id:=fun i hi e=>by
     unfold zao Rise at hr
     rw [List.map_append,List.pairwise_append] at hr
     have:=hr.2.2 i.id (List.mem_map.2 ⟨i,hi,rfl⟩) x.id (by simp)
     rw [e,zbe] at this;cases this
   have h2:=zyl hc h (hm x (by simp)).1 (hm x (by simp)).2 hn
   have:=ih h2 (by rw [List.append_assoc];exact hr) fun y hy=>hm y (by simp [hy])
   rw [List.append_assoc] at this
   exact this
theorem all_mem {s:St} (h:Good s) (i:Itm):i ∈ zas behT s.store s.out ↔ (i ∈ s.store ∨ i ∈ s.out):=by
 constructor
 · exact zne s.out
 · intro hi
   exact (zfz (zeb s.out h.rs)).2 (zsk h hi)
theorem zqg {s:St} (h:Good s) (f:Pr):FilI s f (filF s f) (zas behT s.store s.out):=by
 have:=zym (f:=f) h.c.1 (zas behT s.store s.out) (zyj h f) (by simpa using zeb s.out h.rs) fun x hx=>by
   rcases (all_mem h x).1 hx with hi | hi
   · exact ⟨(mayLB_iff.1 h.st).1 x hi,fun e=>zlt (h.si x hi).knows (by rw [e];exact h.b)⟩
   · exact ⟨(mayLB_iff.1 h.ou).1 x hi,fun e=>zlt (h.so x hi).knows (by rw [e];exact h.b)⟩
 rw [List.nil_append] at this
 exact this
theorem zvq {s:St} {f:Pr} (h:Good s) (hf:filE s f = 0):Good (filF s f):=by
 have F:=zqg h f
 have hff:Pr.mayB f = true ∧ s.epoch ≠ 1000000:=by
   unfold filE at hf
   split at hf
   · rename_i q
     split at hf
     · cases hf
     · rename_i q2;exact ⟨q.1,q2⟩
   · cases hf
 have mem:∀ i,i ∈ zas behT s.store s.out → mayT i = true ∧ i.st ≤ s.clock:=fun i hi=>by
   rcases (all_mem h i).1 hi with q | q
   · exact ⟨(mayLB_iff.1 h.st).1 i q,(h.si i q).stamp⟩
   · exact ⟨(mayLB_iff.1 h.ou).1 i q,(h.so i q).stamp⟩
 have he:=h.e
 refine ⟨by rw [F.f];exact hff.1,mayLB_iff.2 ⟨fun i hi=>(mem i ((F.ms i).1 hi).1).1,F.rs⟩,mayLB_iff.2 ⟨fun i hi=>(mem i ((F.mo i).1 hi).1).1,F.ro⟩,F.k,by rw [F.r];exact h.r,?_,by rw [F.c];exact h.c,by rw [F.t];exact h.t,by rw [F.e];omega,fun i hi j hj e=>?_,fun i hi=>?_,fun i hi=>?_,by rw [F.r,F.c];exact F.b⟩
 · have h1:=F.n
   have h2:=zid (l:=s.store) (m:=s.out) (f:=behT)
   have:=h.n
   omega
 · obtain ⟨a1,a2⟩:=(F.mo i).1 hi
   obtain ⟨b1,b2⟩:=(F.ms j).1 hj
   rw [zet (zeb s.out h.rs) b1 a1 e,a2] at b2;cases b2
 · obtain ⟨b1,b2⟩:=(F.ms i).1 hi
   exact ⟨by rw [F.f];exact b2,F.kn i b1,by rw [F.t];exact (mem i b1).2⟩
 · obtain ⟨b1,b2⟩:=(F.mo i).1 hi
   exact ⟨by rw [F.f];exact b2,F.kn i b1,by rw [F.t];exact (mem i b1).2⟩
theorem zy1 {s:St} (h:Good s) (hf:Pr.same s.f s.f = true):zkn s s = true:=by
 unfold zkn
 rw [hf,zjj,zeu fun i hi=>zgt (zdy ((mayLB_iff.1 h.st).1 i hi)).1 (zdy ((mayLB_iff.1 h.st).1 i hi)).2,zeu fun i hi=>zgt (zdy ((mayLB_iff.1 h.ou).1 i hi)).1 (zdy ((mayLB_iff.1 h.ou).1 i hi)).2]
 simp
abbrev zfb (i:Itm):Itm:=⟨i.id,i.r,i.c,i.st,i.kd,i.num,i.x,i.y,true⟩
def delE (s:St) (id:ByteArray):Int:=if zaz id = true then (if (zag s id).2 = true ∧ (zag s id).1.d = false then (if zbb s = true then 5 else 0) else 2) else 1
def delS (s:St) (id:ByteArray):St:=if delE s id = 0 then zay s (zfb (zag s id).1) else s
theorem ztb {s:St} {id:ByteArray} (h:zaz id = false):delE s id = 1 ∧ delS s id = s:=by
 have e:delE s id = 1:=by unfold delE;rw [if_neg (by simp [h])]
 exact ⟨e,by unfold delS;rw [e,if_neg (by decide)]⟩
theorem ztc {s:St} {id:ByteArray} (h:zaz id = true) (h2:¬((zag s id).2 = true ∧ (zag s id).1.d = false)):delE s id = 2 ∧ delS s id = s:=by
 have e:delE s id = 2:=by unfold delE;rw [if_pos h,if_neg h2]
 exact ⟨e,by unfold delS;rw [e,if_neg (by decide)]⟩
theorem zzx {s:St} {id:ByteArray} (h:zaz id = true) (h2:(zag s id).2 = true ∧ (zag s id).1.d = false) (h3:zbb s = true):delE s id = 5 ∧ delS s id = s:=by
 have e:delE s id = 5:=by unfold delE;rw [if_pos h,if_pos h2,if_pos h3]
 exact ⟨e,by unfold delS;rw [e,if_neg (by decide)]⟩
theorem zzy {s:St} {id:ByteArray} (h:zaz id = true) (h2:(zag s id).2 = true ∧ (zag s id).1.d = false) (h3:zbb s = false):delE s id = 0 ∧ delS s id = zay s (zfb (zag s id).1):=by
 have e:delE s id = 0:=by unfold delE;rw [if_pos h,if_pos h2,if_neg (by simp [h3])]
 exact ⟨e,by unfold delS;rw [e,if_pos rfl]⟩
theorem zma {s:St} {id:ByteArray} (h:(zag s id).2 = true):(zag s id).1.id = id:=by
 unfold zag at *
 rcases zcq (zas behT s.store s.out) id with ⟨i,_,e,hg⟩ | ⟨_,hg⟩
 · rw [hg];exact e
 · rw [hg] at h;cases h
theorem ziu {s:St} {fv sv ov kv:Value} {w:World} (hS:StW w s fv sv ov kv) (id:ByteArray):(zag s id).1.id.size ≤ maxLen ∧ (zag s id).1.kd.size ≤ maxLen:=by
 unfold zag
 rcases zcq (zas behT s.store s.out) id with ⟨i,hi,_,hg⟩ | ⟨_,hg⟩
 · rw [hg]
   rcases zne s.out hi with h | h
   · exact hS.ls.oks i h
   · exact hS.lo.oks i h
 · rw [hg];exact ⟨by decide,by decide⟩
theorem zkh (s:St) (fv sv ov kv:Value) (id:ByteArray) (w:World) (hS:StW w s fv sv ov kv) (hid:id.size ≤ maxLen) (hf:s.f.size ≤ 1000) (h1:s.store.length ≤ 1000) (h2:s.out.length ≤ 1000)
   (hk1:(zaf (zap s.k id s.r (s.count + 1)).l).length ≤ 10000) (hk2:s.k.l.length ≤ 10000) (hk3:(zaf s.k.l).length ≤ 10000) (hc:0 ≤ s.count ∧ s.count ≤ 1000) (ht:0 ≤ s.clock ∧ s.clock ≤ 1000000) :
   Calls Tryz.prog 53 #[stV s fv sv ov kv,.string id] w fun e w' =>
     ∃ sv' ov' kv',e = .returned (.tuple #[stV (delS s id) fv sv' ov' kv',.int .i64 (delE s id)]) ∧ StW w' (delS s id) fv sv' ov' kv' ∧ StX w' w.heap.size s (delS s id) sv ov kv sv' ov' kv' ∧ Below w.heap.size w w':=by
 have OA:=y34h ((Own.new w (stA s fv sv ov kv) 43).alloc (.cells stZ.toArray 43))
 have OT:=y34h (Own.newAt (w.alloc (.cells (stA s fv sv ov kv) 43)) stZ.toArray 43 (b:=w.heap.size + 1) (by simp))
 have BEL:=y34h (((Below.refl w.heap.size w).alloc (Nat.le_refl _) (.cells (stA s fv sv ov kv) 43)).alloc (by simp) (.cells stZ.toArray 43))
 have HW:=y34h hS
 have hfv:fv.oneCell' = true:=zar hS.lf
 have hsv:sv.oneCell' = true:=by obtain ⟨_,_,_,_,e,_⟩:=hS.ls;rw [e];rfl
 have hov:ov.oneCell' = true:=by obtain ⟨_,_,_,_,e,_⟩:=hS.lo;rw [e];rfl
 have hkv:kv.oneCell' = true:=by obtain ⟨_,_,e⟩:=hS.lk.val;rw [e];rfl
 unfold Value.oneCell' at hfv hsv hov hkv
 have hsz:=ziu hS id
 clear hS
 have CN:=fun w'=>y34h (zha id w' hid)
 have CD:=fun w' (hb:Below w.heap.size w w')=>y34h (zds s fv sv ov kv id w' (HW.out.later hb) h1 h2)
 have CM:=fun (hok:(zag s id).2 = true) w' (hb:Below w.heap.size w w')=>y34h (zeg s fv sv ov kv (zfb (zag s id).1) w' (HW.out.later hb) hsz hf h1 h2 (by show (zaf (zap s.k (zag s id).1.id s.r (s.count + 1)).l).length ≤ 10000;rw [zma hok];exact hk1) hk2 hk3 hc ht)
 have EA:=y34h (ztb (s:=s) (id:=id))
 have EB:=y34h (ztc (s:=s) (id:=id))
 have EC:=y34h (zzx (s:=s) (id:=id))
 have ED:=y34h (zzy (s:=s) (id:=id))
 clear hf h1 h2 hk1 hk2 hk3 hc ht hsz
 generalize zaz id = m at EA EB EC ED CN
 generalize hhd:(zag s id).1 = hd at EB EC ED CD CM
 generalize hok:(zag s id).2 = ok at EB EC ED CD CM
 clear hhd hok
 generalize delE s id = ue at *
 generalize delS s id = us at *
 cases m with
 | false =>
   have E:=y34h (EA.out rfl)
   clear EA EB EC ED
   rw [E.out.1,E.out.2]
   clear E
   go_enter Tryz.func53,Tryz.ntmps53
   go_wp2_with (first | (go_at_call 91;refine (CN _).out.mono ?_;rintro e w1 ⟨rfl,rfl⟩) | (refine wpList_load_mid (by rfl) 43 _ (by rfl) w.heap.size 0 (by rfl) (stA s fv sv ov kv).toList _ OA.out.range Tryz.underlying43 (by rfl) (by kernel_rfl) ?_) | (refine wpList_store_mid (by rfl) 43 _ _ (by rfl) (w.heap.size + 1) 0 (stA s fv sv ov kv) (by rfl) (by rfl) (OT.out.there (by rfl)) (by kernel_rfl) (by simp [Value.oneCell',hfv,hsv,hov,hkv]) ?_) | fail)
   have HK:=y34h (And.intro (OT.out.sets (stA s fv sv ov kv).toList (by rfl)) (zab (b:=w.heap.size + 1) (by omega) (stA s fv sv ov kv).toList 0 BEL.out))
   clear OA OT BEL
   revert HK
   generalize World.setCells _ _ _ _ = WW
   intro HK
   exact zae (by rfl) (by rfl) (by rfl) HK.out.1.range Tryz.underlying43 (by rfl) (by kernel_rfl) rfl ⟨sv,ov,kv,rfl,HW.out.later HK.out.2,.refl _ _ _ _ _ _,HK.out.2⟩
 | true =>
   clear EA
   have E:=y34h (EB.out rfl)
   clear EB
   by_cases hw:ok = true ∧ hd.d = false
   · replace EC:=y34h (EC.out rfl hw)
     replace ED:=y34h (ED.out rfl hw)
     clear E
     obtain ⟨rfl,hd0⟩:=hw
     have CM2:=fun w' (hb:Below w.heap.size w w')=>y34h (show Calls Tryz.prog 101 #[stV s fv sv ov kv,iV (zfb hd)] w' (fun e w''=>∃ sv' ov' kv',e = .returned (.tuple #[stV us fv sv' ov' kv',.int .i64 ue]) ∧ StX w'' w'.heap.size s us sv ov kv sv' ov' kv' ∧ Below w'.heap.size w' w'') from (CM rfl w' hb).out.mono fun e w'' h=>by
       rcases h with ⟨hf,he,hb2⟩ | ⟨hf,sv',ov',kv',he,hst,hr,hb2⟩
       · rw [(EC.out hf).1,(EC.out hf).2]
         exact ⟨sv,ov,kv,he,.refl _ _ _ _ _ _,hb2⟩
       · rw [(ED.out hf).1,(ED.out hf).2]
         exact ⟨sv',ov',kv',he,.inr ⟨rfl,hr⟩,hb2⟩)
     clear CM EC ED
     obtain ⟨x1,x2,x3,x4,x5,x6,x7,x8,xd⟩:=hd
     change xd = false at hd0
     subst hd0
     go_enter Tryz.func53,Tryz.ntmps53
     go_wp2_with (first | (go_at_call 91;refine (CN _).out.mono ?_;rintro e w1 ⟨rfl,rfl⟩) | (go_at_call 25;refine (CD _ BEL.out).out.mono ?_;rintro e w2 ⟨rfl,hb⟩;replace OA:=y34h ((OA.out.later hb).alloc (.cells (iA (⟨x1,x2,x3,x4,x5,x6,x7,x8,true⟩:Itm)) 69));replace OT:=y34h ((OT.out.later hb).alloc (.cells (iA (⟨x1,x2,x3,x4,x5,x6,x7,x8,true⟩:Itm)) 69));replace BEL:=y34h ((BEL.out.trans (hb.mono BEL.out.size)).alloc ((BEL.out.trans (hb.mono BEL.out.size)).size) (.cells (iA (⟨x1,x2,x3,x4,x5,x6,x7,x8,true⟩:Itm)) 69));clear hb) | (go_at_call 101;refine (CM2 _ BEL.out).out.mono ?_;rintro e w3 ⟨sv',ov',kv',rfl,hx,hb⟩;have hst:=hx.lies HW.out (BEL.out.trans (hb.mono BEL.out.size));have hBs:=OT.out.lt;have hfv3:fv.oneCell' = true:=zar hst.lf;have hsv3:sv'.oneCell' = true:=(by obtain ⟨_,_,_,_,e,_⟩:=hst.ls;rw [e];rfl);have hov3:ov'.oneCell' = true:=(by obtain ⟨_,_,_,_,e,_⟩:=hst.lo;rw [e];rfl);have hkv3:kv'.oneCell' = true:=(by obtain ⟨_,_,e⟩:=hst.lk.val;rw [e];rfl);unfold Value.oneCell' at hfv3 hsv3 hov3 hkv3;have HST:=y34h hx;have HBS:=y34h hBs;have BE2:=y34h (BEL.out.trans (hb.mono BEL.out.size));have OT2:=y34h (OT.out.later hb);clear hst hx hb hBs) | (refine wpList_load_mid (by rfl) 43 _ (by rfl) w.heap.size 0 (by rfl) (stA s fv sv ov kv).toList _ OA.out.range Tryz.underlying43 (by rfl) (by kernel_rfl) ?_) | (refine wpList_store_mid (by rfl) 43 _ _ (by rfl) (w.heap.size + 1) 0 (stA us fv sv' ov' kv') (by rfl) (by rfl) (OT2.out.there (by rfl)) (by kernel_rfl) (by simp [Value.oneCell',hfv3,hsv3,hov3,hkv3]) ?_) | fail)
     have HK:=y34h (And.intro (OT2.out.sets (stA us fv sv' ov' kv').toList (by rfl)) (And.intro (zab (b:=w.heap.size + 1) (by omega) (stA us fv sv' ov' kv').toList 0 BE2.out) (HST.out.sets HBS.out (stA us fv sv' ov' kv').toList)))
     have hle:=BEL.out.size
     clear OA OT BEL OT2 BE2 HST
     revert HK
     generalize World.setCells _ _ _ _ = WW
     intro HK
     exact zae (by rfl) (by rfl) (by rfl) HK.out.1.range Tryz.underlying43 (by rfl) (by kernel_rfl) rfl ⟨sv',ov',kv',rfl,HK.out.2.2.lies HW.out HK.out.2.1,HK.out.2.2.mono hle,HK.out.2.1⟩
   · rw [(E.out hw).1,(E.out hw).2]
     clear E EC ED CM
     have hways:ok = false ∨ (ok = true ∧ hd.d = true):=by
       cases ok with
       | false=>exact .inl rfl
       | true =>
         refine .inr ⟨rfl,?_⟩
         cases hq:hd.d with
         | false=>exact absurd ⟨rfl,hq⟩ hw
         | true=>rfl
     clear hw
     obtain ⟨x1,x2,x3,x4,x5,x6,x7,x8,xd⟩:=hd
     change ok = false ∨ (ok = true ∧ xd = true) at hways
     rcases hways with rfl | ⟨rfl,rfl⟩
     · go_enter Tryz.func53,Tryz.ntmps53
       go_wp2_with (first | (go_at_call 91;refine (CN _).out.mono ?_;rintro e w1 ⟨rfl,rfl⟩) | (go_at_call 25;refine (CD _ BEL.out).out.mono ?_;rintro e w2 ⟨rfl,hb⟩;replace OA:=y34h ((OA.out.later hb).alloc (.cells (iA (⟨x1,x2,x3,x4,x5,x6,x7,x8,xd⟩:Itm)) 69));replace OT:=y34h ((OT.out.later hb).alloc (.cells (iA (⟨x1,x2,x3,x4,x5,x6,x7,x8,xd⟩:Itm)) 69));replace BEL:=y34h ((BEL.out.trans (hb.mono BEL.out.size)).alloc ((BEL.out.trans (hb.mono BEL.out.size)).size) (.cells (iA (⟨x1,x2,x3,x4,x5,x6,x7,x8,xd⟩:Itm)) 69));clear hb) | (refine wpList_load_mid (by rfl) 43 _ (by rfl) w.heap.size 0 (by rfl) (stA s fv sv ov kv).toList _ OA.out.range Tryz.underlying43 (by rfl) (by kernel_rfl) ?_) | (refine wpList_store_mid (by rfl) 43 _ _ (by rfl) (w.heap.size + 1) 0 (stA s fv sv ov kv) (by rfl) (by rfl) (OT.out.there (by rfl)) (by kernel_rfl) (by simp [Value.oneCell',hfv,hsv,hov,hkv]) ?_) | fail)
       have HK:=y34h (And.intro (OT.out.sets (stA s fv sv ov kv).toList (by rfl)) (zab (b:=w.heap.size + 1) (by omega) (stA s fv sv ov kv).toList 0 BEL.out))
       clear OA OT BEL
       revert HK
       generalize World.setCells _ _ _ _ = WW
       intro HK
       exact zae (by rfl) (by rfl) (by rfl) HK.out.1.range Tryz.underlying43 (by rfl) (by kernel_rfl) rfl ⟨sv,ov,kv,rfl,HW.out.later HK.out.2,.refl _ _ _ _ _ _,HK.out.2⟩
     · go_enter Tryz.func53,Tryz.ntmps53
       go_wp2_with (first | (go_at_call 91;refine (CN _).out.mono ?_;rintro e w1 ⟨rfl,rfl⟩) | (go_at_call 25;refine (CD _ BEL.out).out.mono ?_;rintro e w2 ⟨rfl,hb⟩;replace OA:=y34h ((OA.out.later hb).alloc (.cells (iA (⟨x1,x2,x3,x4,x5,x6,x7,x8,true⟩:Itm)) 69));replace OT:=y34h ((OT.out.later hb).alloc (.cells (iA (⟨x1,x2,x3,x4,x5,x6,x7,x8,true⟩:Itm)) 69));replace BEL:=y34h ((BEL.out.trans (hb.mono BEL.out.size)).alloc ((BEL.out.trans (hb.mono BEL.out.size)).size) (.cells (iA (⟨x1,x2,x3,x4,x5,x6,x7,x8,true⟩:Itm)) 69));clear hb) | (refine wpList_load_mid (by rfl) 43 _ (by rfl) w.heap.size 0 (by rfl) (stA s fv sv ov kv).toList _ OA.out.range Tryz.underlying43 (by rfl) (by kernel_rfl) ?_) | (refine wpList_store_mid (by rfl) 43 _ _ (by rfl) (w.heap.size + 1) 0 (stA s fv sv ov kv) (by rfl) (by rfl) (OT.out.there (by rfl)) (by kernel_rfl) (by simp [Value.oneCell',hfv,hsv,hov,hkv]) ?_) | fail)
       have HK:=y34h (And.intro (OT.out.sets (stA s fv sv ov kv).toList (by rfl)) (zab (b:=w.heap.size + 1) (by omega) (stA s fv sv ov kv).toList 0 BEL.out))
       clear OA OT BEL
       revert HK
       generalize World.setCells _ _ _ _ = WW
       intro HK
       exact zae (by rfl) (by rfl) (by rfl) HK.out.1.range Tryz.underlying43 (by rfl) (by kernel_rfl) rfl ⟨sv,ov,kv,rfl,HW.out.later HK.out.2,.refl _ _ _ _ _ _,HK.out.2⟩
end Go.Proofs.YthnllikalobmeaaGreat
