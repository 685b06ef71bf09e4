/- Joined: RefSt7, StGood2, RefSt8, RefSt10. -/
import Derived.Test.YtodfhabkdaiopaaGreatJ32
import Derived.Test.YtodfhabkdaiopaaGreatJ18
import Derived.Test.YtodfhabkdaiopaaGreatJ26
namespace Go.Proofs.YtodfhabkdaiopaaGreat
set_option linter.unusedVariables false
set_option linter.unusedSimpArgs false
set_option maxRecDepth 100000
set_option maxHeartbeats 8000000
open Go.RowKit
theorem y33h {p:Prop} (h:p):Go.RowKit.Hid p:=Lib.hid h
abbrev itS (id kd:ByteArray) (num:Int) (px py:Nat):Itm:=⟨id,1,1,1,kd,num,px,py,false⟩
theorem far8 {X:World} {b' b:Nat} {c:Array Value} {T:TypeId} (h:Own X b' c T) (hne:b' ≠ b) (c0 c1 c2 c3 c4 c5 c6 c7:Value) :
   Own (((((((((X.setCell ⟨b,0,none⟩ c0).setCell ⟨b,1,none⟩ c1).setCell ⟨b,2,none⟩ c2).setCell ⟨b,3,none⟩ c3).setCell ⟨b,4,none⟩ c4).setCell ⟨b,5,none⟩ c5).setCell ⟨b,6,none⟩ c6).setCell ⟨b,7,none⟩ c7)) b' c T :=
 (((((((h.setFar _ _ hne).setFar _ _ hne).setFar _ _ hne).setFar _ _ hne).setFar _ _ hne).setFar _ _ hne).setFar _ _ hne).setFar _ _ hne
theorem zgk (id kd:ByteArray) (num:Int) (px py:Nat) (w:World) (hid:id.size≤maxLen) (hkd:kd.size≤maxLen) :
   Calls Tryz.prog 152 #[.string id,.string kd,.int .i64 num,.complex .f64 px py] w fun e w'=>e=.returned (.tuple #[iV (itS id kd num px py),.bool (mayT (itS id kd num px py))])∧Below w.heap.size w w':=by
 have OT:=y33h ((Own.new w #[.string ⟨#[]⟩,.int .i64 0,.int .i64 0,.int .i64 0,.string ⟨#[]⟩,.int .i64 0,.complex .f64 0 0,.bool false] 58).alloc (.cells (iA (itS id kd num px py)) 58))
 have OX:=y33h (Own.newAt (w.alloc (.cells #[.string ⟨#[]⟩,.int .i64 0,.int .i64 0,.int .i64 0,.string ⟨#[]⟩,.int .i64 0,.complex .f64 0 0,.bool false] 58)) (iA (itS id kd num px py)) 58 (b:=w.heap.size + 1) (by simp))
 have BEL:=y33h (((Below.refl w.heap.size w).alloc (Nat.le_refl _) (.cells #[.string ⟨#[]⟩,.int .i64 0,.int .i64 0,.int .i64 0,.string ⟨#[]⟩,.int .i64 0,.complex .f64 0 0,.bool false] 58)).alloc (by simp) (.cells (iA (itS id kd num px py)) 58))
 have C:=fun w'=>y33h (zhs (itS id kd num px py) w' hid hkd)
 have hne:=y33h (show w.heap.size + 1 ≠ w.heap.size by omega)
 generalize mayT (itS id kd num px py)=m at *
 go_enter Tryz.func152,Tryz.ntmps152
 go_wp2_with fail
 replace OT:=y33h OT.out.drew
 replace OX:=y33h OX.out.drew
 replace BEL:=y33h BEL.out.drew
 go_region_held3 (fun w'=>∀ o,w'.cell? ⟨w.heap.size + 1,o,none⟩=(iA (itS id kd num px py))[o]?) (first | with_reducible exact OX.out.cell | with_reducible exact (far8 OX.out hne.out _ _ _ _ _ _ _ _).cell | fail) (first
     | (go_simp;go_at_call 67;refine (C _).out.mono ?_;rintro e w3 ⟨rfl,hb⟩;replace OT:=y33h (OT.out.later hb);replace OX:=y33h (OX.out.later hb);replace BEL:=y33h (BEL.out.trans (hb.mono BEL.out.size));clear hb;have l1:=OT.out.cell;have f1:=OT.out.free;have z1:=OT.out.lt)
     | fail)
 have key:=And.intro (zbr OT.out (.string id) (.int .i64 1) (.int .i64 1) (.int .i64 1) (.string kd) (.int .i64 num) (.complex .f64 px py) (.bool false)) (za5 (b:=w.heap.size) BEL.out (Nat.le_refl _) (.string id) (.int .i64 1) (.int .i64 1) (.int .i64 1) (.string kd) (.int .i64 num) (.complex .f64 px py) (.bool false))
 clear OT OX BEL l1 f1 z1
 go_wp2_with fail
 unfold st8 at key
 revert key
 generalize World.setCell (World.setCell (World.setCell (World.setCell (World.setCell (World.setCell (World.setCell (World.setCell _ _ _) _ _) _ _) _ _) _ _) _ _) _ _) _ _=WW
 rintro ⟨of,bf⟩
 exact zab (by rfl) (by rfl) (by rfl) (l:=ic (itS id kd num px py)) of.range Tryz.underlying58 (by rfl) (by kernel_rfl) rfl ⟨rfl,bf⟩
theorem zsk {s:St} (h:Good s) {i:Itm} (hi:i∈s.store ∨ i∈s.out):zae s i.id=(i,true):=by
 rcases ze0 h i.id with ⟨j,hj,e,hq⟩ | ⟨j,hj,e,hq⟩ | ⟨h1,h2,_⟩
 · rw [hq]
   rcases hi with hi | hi
   · rw [zff h.rs hj hi e]
   · exact absurd e (h.tw i hi j hj)
 · rw [hq]
   rcases hi with hi | hi
   · exact absurd e.symm (h.tw j hj i hi)
   · rw [zff h.ro hj hi e]
 · rcases hi with hi | hi
   · exact absurd rfl (h1 i hi)
   · exact absurd rfl (h2 i hi)
def filE (s:St) (f:Pr):Int:=if Pr.mayB f=true∧¬(s.f.op=1∧f.op ≠ 1) then (if s.epoch=1000000 then 5 else 0) else 1
def filB (s:St) (f:Pr):St:=⟨s.r,f,[],[],⟨zad,[]⟩,s.count,s.clock,s.epoch + 1⟩
def filW (t:St) (x:Itm):St:=⟨t.r,t.f,t.store,t.out,zah (zal t.k x.id x.r x.c),t.count,t.clock,t.epoch⟩
def filP (t:St) (x:Itm):St:=zbv (filW t x) x true
def filF (s:St) (f:Pr):St:=(zar behT s.store s.out).foldl filP (filB s f)
def filS (s:St) (f:Pr):St:=if filE s f=0 then filF s f else s
structure FilI (s:St) (p:Pr) (u:St) (l:List Itm):Prop where
 r:u.r=s.r
 f:u.f=p
 c:u.count=s.count
 t:u.clock=s.clock
 e:u.epoch=s.epoch + 1
 ms:∀ i,i∈u.store ↔ i∈l∧hasT p i=true
 mo:∀ i,i∈u.out ↔ i∈l∧hasT p i=false
 rs:zap u.store
 ro:zap u.out
 k:mayK zbd u.k=true
 kn:∀ i∈l,hasK u.k i.id i.r i.c=true
 b:beyS u.k s.r s.count=false
 n:u.store.length + u.out.length≤l.length
theorem zmq:mayK zbd ⟨zad,[]⟩=true:=by
 have:zah ⟨zad,[]⟩=⟨zad,[]⟩:=rfl
 rw [zgz,this]
 exact ⟨⟨zkd _,fun j _=>⟨by show (0:Int)≤0;decide,by show (0:Int)≤1000;decide⟩⟩,fun f hf=>by simp at hf⟩
theorem zyo {s:St} (h:Good s) (f:Pr):FilI s f (filB s f) []:=by
 refine ⟨rfl,rfl,rfl,rfl,rfl,fun i=>?_,fun i=>?_,by simp [filB,zap,Rise],by simp [filB,zap,Rise],zmq,fun i hi=>by simp at hi,?_,by simp [filB]⟩
 · show i∈[] ↔ i∈[]∧_
   simp
 · show i∈[] ↔ i∈[]∧_
   simp
 · rw [zd3]
   have:=h.c
   exact ⟨zgd this.1 fun _=>this.1,fun f hf=>by simp [filB] at hf⟩
theorem zyq {s:St} {f:Pr} {t:St} {l:List Itm} {x:Itm} (hc:0≤s.count) (h:FilI s f t l) (hx:mayT x=true) (hb:x.r=s.r→x.c≤s.count) (hn:∀ i∈l,i.id ≠ x.id):FilI s f (filP t x) (l ++ [x]):=by
 have hxx:=mayT_iff.1 hx
 have hs:∀ i,i∈(filP t x).store ↔ i∈l ++ [x]∧hasT f i=true:=fun i=>by
   show i∈zam (filW t x) x ↔ _
   unfold zam
   rw [show hasT (filW t x).f x=hasT f x by rw [show (filW t x).f=t.f from rfl,h.f],show (filW t x).store=t.store from rfl,List.mem_append,List.mem_singleton]
   cases hh:hasT f x with
   | true =>
     rw [if_pos rfl,mem_put,mem_drop,h.ms]
     constructor
     · rintro (e | ⟨⟨⟨e1,e2⟩,_⟩,_⟩)
       · exact ⟨.inr e,by rw [e];exact hh⟩
       · exact ⟨.inl e1,e2⟩
     · rintro ⟨e | e,e2⟩
       · exact .inr ⟨⟨⟨e,e2⟩,hn i e⟩,hn i e⟩
       · exact .inl e
   | false =>
     rw [if_neg (by simp),mem_drop,h.ms]
     constructor
     · rintro ⟨⟨e1,e2⟩,_⟩;exact ⟨.inl e1,e2⟩
     · rintro ⟨e | e,e2⟩
       · exact ⟨⟨e,e2⟩,hn i e⟩
       · rw [e,hh] at e2;cases e2
 have ho:∀ i,i∈(filP t x).out ↔ i∈l ++ [x]∧hasT f i=false:=fun i=>by
   show i∈laidOut (filW t x) x true ↔ _
   unfold laidOut
   rw [show hasT (filW t x).f x=hasT f x by rw [show (filW t x).f=t.f from rfl,h.f],show (filW t x).out=t.out from rfl,List.mem_append,List.mem_singleton]
   cases hh:hasT f x with
   | true =>
     rw [if_pos rfl,mem_drop,h.mo]
     constructor
     · rintro ⟨⟨e1,e2⟩,_⟩;exact ⟨.inl e1,e2⟩
     · rintro ⟨e | e,e2⟩
       · exact ⟨⟨e,e2⟩,hn i e⟩
       · rw [e,hh] at e2;cases e2
   | false =>
     rw [if_neg (by simp),if_pos rfl,mem_put,mem_drop,h.mo]
     constructor
     · rintro (e | ⟨⟨⟨e1,e2⟩,_⟩,_⟩)
       · exact ⟨.inr e,by rw [e];exact hh⟩
       · exact ⟨.inl e1,e2⟩
     · rintro ⟨e | e,e2⟩
       · exact .inr ⟨⟨⟨e,e2⟩,hn i e⟩,hn i e⟩
       · exact .inl e
 refine ⟨h.r,h.f,h.c,h.t,h.e,hs,ho,?_,?_,zfz h.k hxx.1 (by omega),fun i hi=>?_,?_,?_⟩
 · show zap (zam (filW t x) x)
   unfold zam
   split
   · exact zeq (zbg h.rs)
   · exact zbg h.rs
 · show zap (laidOut (filW t x) x true)
   unfold laidOut
   split
   · exact zbg h.ro
   · rw [if_pos rfl];exact zeq (zbg h.ro)
 · rcases List.mem_append.1 hi with hi | hi
   · exact zhi _ _ _ _ _ _ _ (h.kn i hi)
   · simp at hi;subst hi
     exact zhh _ _ (by omega) (by omega) (by omega)
 · exact ze6 hc (zfs hc h.b hb (by omega) (by omega))
 · show (zam (filW t x) x).length + (laidOut (filW t x) x true).length≤(l ++ [x]).length
   have hn:=h.n
   have f1:=zdn t.store x.id
   have f2:=zdn t.out x.id
   have p1:=zc1 (t.store.filter (neB x.id)) x
   have p2:=zc1 (t.out.filter (neB x.id)) x
   unfold zam laidOut
   rw [List.length_append]
   simp only [if_pos,List.length_cons,List.length_nil]
   cases hasT (filW t x).f x with
   | true=>simp only [if_true];show (putI (t.store.filter (neB x.id)) x).length + (t.out.filter (neB x.id)).length≤_;omega
   | false=>simp only [Bool.false_eq_true,if_false];show (t.store.filter (neB x.id)).length + (putI (t.out.filter (neB x.id)) x).length≤_;omega
theorem zyr {s:St} {f:Pr} (hc:0≤s.count) (m:List Itm):∀ {t:St} {l:List Itm},FilI s f t l→zap (l ++ m)→(∀ x∈m,mayT x=true∧(x.r=s.r→x.c≤s.count))→FilI s f (m.foldl filP t) (l ++ m):=by
 induction m with
 | nil=>intro t l h _ _;rw [List.append_nil];exact h
 | cons x m ih =>
   intro t l h hr hm
   have hn:∀ i∈l,i.id ≠ x.id:=fun i hi e=>by
     unfold zap Rise at hr
     rw [List.map_append,List.pairwise_append] at hr
     have:=hr.2.2 i.id (List.mem_map.2 ⟨i,hi,rfl⟩) x.id (by simp)
     rw [e,zbl] at this;cases this
   have h2:=zyq hc h (hm x (by simp)).1 (hm x (by simp)).2 hn
   have:=ih h2 (by rw [List.append_assoc];exact hr) fun y hy=>hm y (by simp [hy])
   rw [List.append_assoc] at this
   exact this
theorem all_mem {s:St} (h:Good s) (i:Itm):i∈zar behT s.store s.out ↔ (i∈s.store ∨ i∈s.out):=by
 constructor
 · exact znv s.out
 · intro hi
   exact (zfh (zd7 s.out h.rs)).2 (zsk h hi)
theorem zqp {s:St} (h:Good s) (f:Pr):FilI s f (filF s f) (zar behT s.store s.out):=by
 have:=zyr (f:=f) h.c.1 (zar behT s.store s.out) (zyo h f) (by simpa using zd7 s.out h.rs) fun x hx=>by
   rcases (all_mem h x).1 hx with hi | hi
   · exact ⟨(mayLB_iff.1 h.st).1 x hi,fun e=>zmk (h.si x hi).knows (by rw [e];exact h.b)⟩
   · exact ⟨(mayLB_iff.1 h.ou).1 x hi,fun e=>zmk (h.so x hi).knows (by rw [e];exact h.b)⟩
 rw [List.nil_append] at this
 exact this
theorem zvu {s:St} {f:Pr} (h:Good s) (hf:filE s f=0):Good (filF s f):=by
 have F:=zqp h f
 have hff:Pr.mayB f=true∧s.epoch ≠ 1000000:=by
   unfold filE at hf
   split at hf
   · rename_i q
     split at hf
     · cases hf
     · rename_i q2;exact ⟨q.1,q2⟩
   · cases hf
 have mem:∀ i,i∈zar behT s.store s.out→mayT i=true∧i.st≤s.clock:=fun i hi=>by
   rcases (all_mem h i).1 hi with q | q
   · exact ⟨(mayLB_iff.1 h.st).1 i q,(h.si i q).stamp⟩
   · exact ⟨(mayLB_iff.1 h.ou).1 i q,(h.so i q).stamp⟩
 have he:=h.e
 refine ⟨by rw [F.f];exact hff.1,mayLB_iff.2 ⟨fun i hi=>(mem i ((F.ms i).1 hi).1).1,F.rs⟩,mayLB_iff.2 ⟨fun i hi=>(mem i ((F.mo i).1 hi).1).1,F.ro⟩,F.k,by rw [F.r];exact h.r,?_,by rw [F.c];exact h.c,by rw [F.t];exact h.t,by rw [F.e];omega,fun i hi j hj e=>?_,fun i hi=>?_,fun i hi=>?_,by rw [F.r,F.c];exact F.b⟩
 · have h1:=F.n
   have h2:=ziv (l:=s.store) (m:=s.out) (f:=behT)
   have:=h.n
   omega
 · obtain ⟨a1,a2⟩:=(F.mo i).1 hi
   obtain ⟨b1,b2⟩:=(F.ms j).1 hj
   rw [zff (zd7 s.out h.rs) b1 a1 e,a2] at b2;cases b2
 · obtain ⟨b1,b2⟩:=(F.ms i).1 hi
   exact ⟨by rw [F.f];exact b2,F.kn i b1,by rw [F.t];exact (mem i b1).2⟩
 · obtain ⟨b1,b2⟩:=(F.mo i).1 hi
   exact ⟨by rw [F.f];exact b2,F.kn i b1,by rw [F.t];exact (mem i b1).2⟩
theorem zi0 {s:St} (h:Good s) (hf:Pr.same s.f s.f=true):zlf s s=true:=by
 unfold zlf
 rw [hf,zkd,zhc fun i hi=>zlg (zeo ((mayLB_iff.1 h.st).1 i hi)).1 (zeo ((mayLB_iff.1 h.st).1 i hi)).2,zhc fun i hi=>zlg (zeo ((mayLB_iff.1 h.ou).1 i hi)).1 (zeo ((mayLB_iff.1 h.ou).1 i hi)).2]
 simp
def updE (s:St) (x:Itm):Int:=if mayT x=true then (if (zae s x.id).2=true∧(zae s x.id).1.d=false then (if zbi s=true then 5 else 0) else 2) else 1
def updS (s:St) (x:Itm):St:=if updE s x=0 then zbb s x else s
theorem z0u {s:St} {x:Itm} (h:mayT x=false):updE s x=1∧updS s x=s:=by
 have e:updE s x=1:=by unfold updE;rw [if_neg (by simp [h])]
 exact ⟨e,by unfold updS;rw [e,if_neg (by decide)]⟩
theorem z0v {s:St} {x:Itm} (h:mayT x=true) (h2:¬((zae s x.id).2=true∧(zae s x.id).1.d=false)):updE s x=2∧updS s x=s:=by
 have e:updE s x=2:=by unfold updE;rw [if_pos h,if_neg h2]
 exact ⟨e,by unfold updS;rw [e,if_neg (by decide)]⟩
theorem z0w {s:St} {x:Itm} (h:mayT x=true) (h2:(zae s x.id).2=true∧(zae s x.id).1.d=false) (h3:zbi s=true):updE s x=5∧updS s x=s:=by
 have e:updE s x=5:=by unfold updE;rw [if_pos h,if_pos h2,if_pos h3]
 exact ⟨e,by unfold updS;rw [e,if_neg (by decide)]⟩
theorem z0x {s:St} {x:Itm} (h:mayT x=true) (h2:(zae s x.id).2=true∧(zae s x.id).1.d=false) (h3:zbi s=false):updE s x=0∧updS s x=zbb s x:=by
 have e:updE s x=0:=by unfold updE;rw [if_pos h,if_pos h2,if_neg (by simp [h3])]
 exact ⟨e,by unfold updS;rw [e,if_pos rfl]⟩
theorem zlb (s:St) (fv sv ov kv:Value) (id kd:ByteArray) (num:Int) (px py:Nat) (w:World) (hS:StW w s fv sv ov kv) (hid:id.size≤maxLen) (hkd:kd.size≤maxLen) (hf:s.f.size≤1000) (h1:s.store.length≤1000) (h2:s.out.length≤1000)
   (hk1:(zaf (zal s.k id s.r (s.count + 1)).l).length≤10000) (hk2:s.k.l.length≤10000) (hk3:(zaf s.k.l).length≤10000) (hc:0≤s.count∧s.count≤1000) (ht:0≤s.clock∧s.clock≤1000000) :
   Calls Tryz.prog 79 #[stV s fv sv ov kv,.string id,.string kd,.int .i64 num,.complex .f64 px py] w fun e w' =>
     ∃ sv' ov' kv',e=.returned (.tuple #[stV (updS s (itS id kd num px py)) fv sv' ov' kv',.int .i64 (updE s (itS id kd num px py))])∧StW w' (updS s (itS id kd num px py)) fv sv' ov' kv'∧StX w' w.heap.size s (updS s (itS id kd num px py)) sv ov kv sv' ov' kv'∧Below w.heap.size w w':=by
 have OA:=y33h ((Own.new w (stA s fv sv ov kv) 40).alloc (.cells stZ.toArray 40))
 have OT:=y33h (Own.newAt (w.alloc (.cells (stA s fv sv ov kv) 40)) stZ.toArray 40 (b:=w.heap.size + 1) (by simp))
 have BEL:=y33h (((Below.refl w.heap.size w).alloc (Nat.le_refl _) (.cells (stA s fv sv ov kv) 40)).alloc (by simp) (.cells stZ.toArray 40))
 have HW:=y33h hS
 have hfv:fv.oneCell'=true:=zas hS.lf
 have hsv:sv.oneCell'=true:=by obtain ⟨_,_,_,_,e,_⟩:=hS.ls;rw [e];rfl
 have hov:ov.oneCell'=true:=by obtain ⟨_,_,_,_,e,_⟩:=hS.lo;rw [e];rfl
 have hkv:kv.oneCell'=true:=by obtain ⟨_,_,e⟩:=hS.lk.val;rw [e];rfl
 unfold Value.oneCell' at hfv hsv hov hkv
 clear hS
 have CS:=fun w'=>y33h (zgk id kd num px py w' hid hkd)
 have CD:=fun w' (hb:Below w.heap.size w w')=>y33h (zde s fv sv ov kv id w' (HW.out.later hb) h1 h2)
 have CM:=fun w' (hb:Below w.heap.size w w')=>y33h (ze4 s fv sv ov kv (itS id kd num px py) w' (HW.out.later hb) ⟨hid,hkd⟩ hf h1 h2 hk1 hk2 hk3 hc ht)
 have EA:=y33h (z0u (s:=s) (x:=(itS id kd num px py)))
 have EB:=y33h (z0v (s:=s) (x:=(itS id kd num px py)))
 have EC:=y33h (z0w (s:=s) (x:=(itS id kd num px py)))
 have ED:=y33h (z0x (s:=s) (x:=(itS id kd num px py)))
 clear hf h1 h2 hk1 hk2 hk3 hc ht
 have hXid:((itS id kd num px py)).id=id:=rfl
 rw [hXid] at EB EC ED
 generalize mayT (itS id kd num px py)=m at EA EB EC ED CS
 generalize hhd:(zae s id).1=hd at EB EC ED CD
 generalize hok:(zae s id).2=ok at EB EC ED CD
 clear hhd hok hXid
 generalize updE s (itS id kd num px py)=ue at *
 generalize updS s (itS id kd num px py)=us at *
 cases m with
 | false =>
   have E:=y33h (EA.out rfl)
   clear EA EB EC ED
   rw [E.out.1,E.out.2]
   clear E
   all_goals
     go_enter Tryz.func79,Tryz.ntmps79
     go_wp2_with (first | (go_at_call 152;go_loud (refine (CS _).out.mono ?_;rintro e w1 ⟨rfl,hb⟩;have OX:=y33h (Own.new w1 (iA (itS id kd num px py)) 58);replace OA:=y33h ((OA.out.later hb).alloc (.cells (iA (itS id kd num px py)) 58));replace OT:=y33h ((OT.out.later hb).alloc (.cells (iA (itS id kd num px py)) 58));replace BEL:=y33h ((BEL.out.trans (hb.mono BEL.out.size)).alloc ((BEL.out.trans (hb.mono BEL.out.size)).size) (.cells (iA (itS id kd num px py)) 58));clear hb)) | (refine wpList_load_mid (by rfl) 40 _ (by rfl) w.heap.size 0 (by rfl) (stA s fv sv ov kv).toList _ OA.out.range Tryz.underlying40 (by rfl) (by kernel_rfl) ?_) | (refine wpList_store_mid (by rfl) 40 _ _ (by rfl) (w.heap.size + 1) 0 (stA s fv sv ov kv) (by rfl) (by rfl) (OT.out.there (by rfl)) (by kernel_rfl) (by simp [Value.oneCell',hfv,hsv,hov,hkv]) ?_) | fail)
     have HK:=y33h (And.intro (OT.out.sets (stA s fv sv ov kv).toList (by rfl)) (zaa (b:=w.heap.size + 1) (by omega) (stA s fv sv ov kv).toList 0 BEL.out))
     clear OX OA OT BEL
     revert HK
     generalize World.setCells _ _ _ _=WW
     intro HK
     exact zab (by rfl) (by rfl) (by rfl) HK.out.1.range Tryz.underlying40 (by rfl) (by kernel_rfl) rfl ⟨sv,ov,kv,rfl,HW.out.later HK.out.2,.refl _ _ _ _ _ _,HK.out.2⟩
 | true =>
   clear EA
   have E:=y33h (EB.out rfl)
   clear EB
   by_cases hw:ok=true∧hd.d=false
   · replace EC:=y33h (EC.out rfl hw)
     replace ED:=y33h (ED.out rfl hw)
     clear E
     obtain ⟨rfl,hd0⟩:=hw
     have CM2:=fun w' (hb:Below w.heap.size w w')=>y33h (show Calls Tryz.prog 153 #[stV s fv sv ov kv,iV (itS id kd num px py)] w' (fun e w''=>∃ sv' ov' kv',e=.returned (.tuple #[stV us fv sv' ov' kv',.int .i64 ue])∧StX w'' w'.heap.size s us sv ov kv sv' ov' kv'∧Below w'.heap.size w' w'') from (CM w' hb).out.mono fun e w'' h=>by
       rcases h with ⟨hf,he,hb2⟩ | ⟨hf,sv',ov',kv',he,hst,hr,hb2⟩
       · rw [(EC.out hf).1,(EC.out hf).2]
         exact ⟨sv,ov,kv,he,.refl _ _ _ _ _ _,hb2⟩
       · rw [(ED.out hf).1,(ED.out hf).2]
         exact ⟨sv',ov',kv',he,.inr ⟨rfl,hr⟩,hb2⟩)
     clear CM EC ED
     obtain ⟨x1,x2,x3,x4,x5,x6,x7,x8,xd⟩:=hd
     change xd=false at hd0
     subst hd0
     go_enter Tryz.func79,Tryz.ntmps79
     go_wp2_with (first | (go_at_call 152;go_loud (refine (CS _).out.mono ?_;rintro e w1 ⟨rfl,hb⟩;have OX:=y33h (Own.new w1 (iA (itS id kd num px py)) 58);replace OA:=y33h ((OA.out.later hb).alloc (.cells (iA (itS id kd num px py)) 58));replace OT:=y33h ((OT.out.later hb).alloc (.cells (iA (itS id kd num px py)) 58));replace BEL:=y33h ((BEL.out.trans (hb.mono BEL.out.size)).alloc ((BEL.out.trans (hb.mono BEL.out.size)).size) (.cells (iA (itS id kd num px py)) 58));clear hb)) | (go_at_call 68;refine (CD _ BEL.out).out.mono ?_;rintro e w2 ⟨rfl,hb⟩;replace OX:=y33h ((OX.out.later hb).alloc (.cells (iA (⟨x1,x2,x3,x4,x5,x6,x7,x8,false⟩:Itm)) 58));replace OA:=y33h ((OA.out.later hb).alloc (.cells (iA (⟨x1,x2,x3,x4,x5,x6,x7,x8,false⟩:Itm)) 58));replace OT:=y33h ((OT.out.later hb).alloc (.cells (iA (⟨x1,x2,x3,x4,x5,x6,x7,x8,false⟩:Itm)) 58));replace BEL:=y33h ((BEL.out.trans (hb.mono BEL.out.size)).alloc ((BEL.out.trans (hb.mono BEL.out.size)).size) (.cells (iA (⟨x1,x2,x3,x4,x5,x6,x7,x8,false⟩:Itm)) 58));clear hb;have lOX:=OX.out.cell;have zOX:=OX.out.lt) | (go_at_call 153;go_loud (refine (CM2 _ BEL.out).out.mono ?_;rintro e w3 ⟨sv',ov',kv',rfl,hx,hb⟩;have hst:=hx.lies HW.out (BEL.out.trans (hb.mono BEL.out.size));have hBs:=OT.out.lt;have hfv3:fv.oneCell'=true:=zas hst.lf;have hsv3:sv'.oneCell'=true:=(by obtain ⟨_,_,_,_,e,_⟩:=hst.ls;rw [e];rfl);have hov3:ov'.oneCell'=true:=(by obtain ⟨_,_,_,_,e,_⟩:=hst.lo;rw [e];rfl);have hkv3:kv'.oneCell'=true:=(by obtain ⟨_,_,e⟩:=hst.lk.val;rw [e];rfl);unfold Value.oneCell' at hfv3 hsv3 hov3 hkv3;have HST:=y33h hx;have HBS:=y33h hBs;have BE2:=y33h (BEL.out.trans (hb.mono BEL.out.size));have OT2:=y33h (OT.out.later hb);clear hst hx hb hBs lOX zOX)) | (refine wpList_load_mid (by rfl) 40 _ (by rfl) w.heap.size 0 (by rfl) (stA s fv sv ov kv).toList _ OA.out.range Tryz.underlying40 (by rfl) (by kernel_rfl) ?_) | (refine wpList_store_mid (by rfl) 40 _ _ (by rfl) (w.heap.size + 1) 0 (stA us fv sv' ov' kv') (by rfl) (by rfl) (OT2.out.there (by rfl)) (by kernel_rfl) (by simp [Value.oneCell',hfv3,hsv3,hov3,hkv3]) ?_) | fail)
     have HK:=y33h (And.intro (OT2.out.sets (stA us fv sv' ov' kv').toList (by rfl)) (And.intro (zaa (b:=w.heap.size + 1) (by omega) (stA us fv sv' ov' kv').toList 0 BE2.out) (HST.out.sets HBS.out (stA us fv sv' ov' kv').toList)))
     have hle:=BEL.out.size
     clear OX OA OT BEL OT2 BE2 HST
     revert HK
     generalize World.setCells _ _ _ _=WW
     intro HK
     exact zab (by rfl) (by rfl) (by rfl) HK.out.1.range Tryz.underlying40 (by rfl) (by kernel_rfl) rfl ⟨sv',ov',kv',rfl,HK.out.2.2.lies HW.out HK.out.2.1,HK.out.2.2.mono hle,HK.out.2.1⟩
   · rw [(E.out hw).1,(E.out hw).2]
     clear E EC ED
     have hways:ok=false ∨ (ok=true∧hd.d=true):=by
       cases ok with
       | false=>exact .inl rfl
       | true =>
         refine .inr ⟨rfl,?_⟩
         cases hq:hd.d with
         | false=>exact absurd ⟨rfl,hq⟩ hw
         | true=>rfl
     clear hw
     obtain ⟨x1,x2,x3,x4,x5,x6,x7,x8,xd⟩:=hd
     change ok=false ∨ (ok=true∧xd=true) at hways
     rcases hways with rfl | ⟨rfl,rfl⟩
     · go_enter Tryz.func79,Tryz.ntmps79
       go_wp2_with (first | (go_at_call 152;go_loud (refine (CS _).out.mono ?_;rintro e w1 ⟨rfl,hb⟩;have OX:=y33h (Own.new w1 (iA (itS id kd num px py)) 58);replace OA:=y33h ((OA.out.later hb).alloc (.cells (iA (itS id kd num px py)) 58));replace OT:=y33h ((OT.out.later hb).alloc (.cells (iA (itS id kd num px py)) 58));replace BEL:=y33h ((BEL.out.trans (hb.mono BEL.out.size)).alloc ((BEL.out.trans (hb.mono BEL.out.size)).size) (.cells (iA (itS id kd num px py)) 58));clear hb)) | (go_at_call 68;refine (CD _ BEL.out).out.mono ?_;rintro e w2 ⟨rfl,hb⟩;replace OX:=y33h ((OX.out.later hb).alloc (.cells (iA (⟨x1,x2,x3,x4,x5,x6,x7,x8,xd⟩:Itm)) 58));replace OA:=y33h ((OA.out.later hb).alloc (.cells (iA (⟨x1,x2,x3,x4,x5,x6,x7,x8,xd⟩:Itm)) 58));replace OT:=y33h ((OT.out.later hb).alloc (.cells (iA (⟨x1,x2,x3,x4,x5,x6,x7,x8,xd⟩:Itm)) 58));replace BEL:=y33h ((BEL.out.trans (hb.mono BEL.out.size)).alloc ((BEL.out.trans (hb.mono BEL.out.size)).size) (.cells (iA (⟨x1,x2,x3,x4,x5,x6,x7,x8,xd⟩:Itm)) 58));clear hb;have lOX:=OX.out.cell;have zOX:=OX.out.lt) | (refine wpList_load_mid (by rfl) 40 _ (by rfl) w.heap.size 0 (by rfl) (stA s fv sv ov kv).toList _ OA.out.range Tryz.underlying40 (by rfl) (by kernel_rfl) ?_) | (refine wpList_store_mid (by rfl) 40 _ _ (by rfl) (w.heap.size + 1) 0 (stA s fv sv ov kv) (by rfl) (by rfl) (OT.out.there (by rfl)) (by kernel_rfl) (by simp [Value.oneCell',hfv,hsv,hov,hkv]) ?_) | fail)
       have HK:=y33h (And.intro (OT.out.sets (stA s fv sv ov kv).toList (by rfl)) (zaa (b:=w.heap.size + 1) (by omega) (stA s fv sv ov kv).toList 0 BEL.out))
       clear OX OA OT BEL
       revert HK
       generalize World.setCells _ _ _ _=WW
       intro HK
       exact zab (by rfl) (by rfl) (by rfl) HK.out.1.range Tryz.underlying40 (by rfl) (by kernel_rfl) rfl ⟨sv,ov,kv,rfl,HW.out.later HK.out.2,.refl _ _ _ _ _ _,HK.out.2⟩
     · go_enter Tryz.func79,Tryz.ntmps79
       go_wp2_with (first | (go_at_call 152;go_loud (refine (CS _).out.mono ?_;rintro e w1 ⟨rfl,hb⟩;have OX:=y33h (Own.new w1 (iA (itS id kd num px py)) 58);replace OA:=y33h ((OA.out.later hb).alloc (.cells (iA (itS id kd num px py)) 58));replace OT:=y33h ((OT.out.later hb).alloc (.cells (iA (itS id kd num px py)) 58));replace BEL:=y33h ((BEL.out.trans (hb.mono BEL.out.size)).alloc ((BEL.out.trans (hb.mono BEL.out.size)).size) (.cells (iA (itS id kd num px py)) 58));clear hb)) | (go_at_call 68;refine (CD _ BEL.out).out.mono ?_;rintro e w2 ⟨rfl,hb⟩;replace OX:=y33h ((OX.out.later hb).alloc (.cells (iA (⟨x1,x2,x3,x4,x5,x6,x7,x8,true⟩:Itm)) 58));replace OA:=y33h ((OA.out.later hb).alloc (.cells (iA (⟨x1,x2,x3,x4,x5,x6,x7,x8,true⟩:Itm)) 58));replace OT:=y33h ((OT.out.later hb).alloc (.cells (iA (⟨x1,x2,x3,x4,x5,x6,x7,x8,true⟩:Itm)) 58));replace BEL:=y33h ((BEL.out.trans (hb.mono BEL.out.size)).alloc ((BEL.out.trans (hb.mono BEL.out.size)).size) (.cells (iA (⟨x1,x2,x3,x4,x5,x6,x7,x8,true⟩:Itm)) 58));clear hb;have lOX:=OX.out.cell;have zOX:=OX.out.lt) | (refine wpList_load_mid (by rfl) 40 _ (by rfl) w.heap.size 0 (by rfl) (stA s fv sv ov kv).toList _ OA.out.range Tryz.underlying40 (by rfl) (by kernel_rfl) ?_) | (refine wpList_store_mid (by rfl) 40 _ _ (by rfl) (w.heap.size + 1) 0 (stA s fv sv ov kv) (by rfl) (by rfl) (OT.out.there (by rfl)) (by kernel_rfl) (by simp [Value.oneCell',hfv,hsv,hov,hkv]) ?_) | fail)
       have HK:=y33h (And.intro (OT.out.sets (stA s fv sv ov kv).toList (by rfl)) (zaa (b:=w.heap.size + 1) (by omega) (stA s fv sv ov kv).toList 0 BEL.out))
       clear OX OA OT BEL
       revert HK
       generalize World.setCells _ _ _ _=WW
       intro HK
       exact zab (by rfl) (by rfl) (by rfl) HK.out.1.range Tryz.underlying40 (by rfl) (by kernel_rfl) rfl ⟨sv,ov,kv,rfl,HW.out.later HK.out.2,.refl _ _ _ _ _ _,HK.out.2⟩
abbrev zfv (i:Itm):Itm:=⟨i.id,i.r,i.c,i.st,i.kd,i.num,i.x,i.y,true⟩
def delE (s:St) (id:ByteArray):Int:=if zbd id=true then (if (zae s id).2=true∧(zae s id).1.d=false then (if zbi s=true then 5 else 0) else 2) else 1
def delS (s:St) (id:ByteArray):St:=if delE s id=0 then zbb s (zfv (zae s id).1) else s
theorem ztb {s:St} {id:ByteArray} (h:zbd id=false):delE s id=1∧delS s id=s:=by
 have e:delE s id=1:=by unfold delE;rw [if_neg (by simp [h])]
 exact ⟨e,by unfold delS;rw [e,if_neg (by decide)]⟩
theorem ztc {s:St} {id:ByteArray} (h:zbd id=true) (h2:¬((zae s id).2=true∧(zae s id).1.d=false)):delE s id=2∧delS s id=s:=by
 have e:delE s id=2:=by unfold delE;rw [if_pos h,if_neg h2]
 exact ⟨e,by unfold delS;rw [e,if_neg (by decide)]⟩
theorem zz3 {s:St} {id:ByteArray} (h:zbd id=true) (h2:(zae s id).2=true∧(zae s id).1.d=false) (h3:zbi s=true):delE s id=5∧delS s id=s:=by
 have e:delE s id=5:=by unfold delE;rw [if_pos h,if_pos h2,if_pos h3]
 exact ⟨e,by unfold delS;rw [e,if_neg (by decide)]⟩
theorem zz4 {s:St} {id:ByteArray} (h:zbd id=true) (h2:(zae s id).2=true∧(zae s id).1.d=false) (h3:zbi s=false):delE s id=0∧delS s id=zbb s (zfv (zae s id).1):=by
 have e:delE s id=0:=by unfold delE;rw [if_pos h,if_pos h2,if_neg (by simp [h3])]
 exact ⟨e,by unfold delS;rw [e,if_pos rfl]⟩
theorem zmy {s:St} {id:ByteArray} (h:(zae s id).2=true):(zae s id).1.id=id:=by
 unfold zae at *
 rcases zco (zar behT s.store s.out) id with ⟨i,_,e,hg⟩ | ⟨_,hg⟩
 · rw [hg];exact e
 · rw [hg] at h;cases h
theorem zjk {s:St} {fv sv ov kv:Value} {w:World} (hS:StW w s fv sv ov kv) (id:ByteArray):(zae s id).1.id.size≤maxLen∧(zae s id).1.kd.size≤maxLen:=by
 unfold zae
 rcases zco (zar behT s.store s.out) id with ⟨i,hi,_,hg⟩ | ⟨_,hg⟩
 · rw [hg]
   rcases znv s.out hi with h | h
   · exact hS.ls.oks i h
   · exact hS.lo.oks i h
 · rw [hg];exact ⟨by decide,by decide⟩
theorem zk9 (s:St) (fv sv ov kv:Value) (id:ByteArray) (w:World) (hS:StW w s fv sv ov kv) (hid:id.size≤maxLen) (hf:s.f.size≤1000) (h1:s.store.length≤1000) (h2:s.out.length≤1000)
   (hk1:(zaf (zal s.k id s.r (s.count + 1)).l).length≤10000) (hk2:s.k.l.length≤10000) (hk3:(zaf s.k.l).length≤10000) (hc:0≤s.count∧s.count≤1000) (ht:0≤s.clock∧s.clock≤1000000) :
   Calls Tryz.prog 80 #[stV s fv sv ov kv,.string id] w fun e w' =>
     ∃ sv' ov' kv',e=.returned (.tuple #[stV (delS s id) fv sv' ov' kv',.int .i64 (delE s id)])∧StW w' (delS s id) fv sv' ov' kv'∧StX w' w.heap.size s (delS s id) sv ov kv sv' ov' kv'∧Below w.heap.size w w':=by
 have OA:=y33h ((Own.new w (stA s fv sv ov kv) 40).alloc (.cells stZ.toArray 40))
 have OT:=y33h (Own.newAt (w.alloc (.cells (stA s fv sv ov kv) 40)) stZ.toArray 40 (b:=w.heap.size + 1) (by simp))
 have BEL:=y33h (((Below.refl w.heap.size w).alloc (Nat.le_refl _) (.cells (stA s fv sv ov kv) 40)).alloc (by simp) (.cells stZ.toArray 40))
 have HW:=y33h hS
 have hfv:fv.oneCell'=true:=zas hS.lf
 have hsv:sv.oneCell'=true:=by obtain ⟨_,_,_,_,e,_⟩:=hS.ls;rw [e];rfl
 have hov:ov.oneCell'=true:=by obtain ⟨_,_,_,_,e,_⟩:=hS.lo;rw [e];rfl
 have hkv:kv.oneCell'=true:=by obtain ⟨_,_,e⟩:=hS.lk.val;rw [e];rfl
 unfold Value.oneCell' at hfv hsv hov hkv
 have hsz:=zjk hS id
 clear hS
 have CN:=fun w'=>y33h (zht id w' hid)
 have CD:=fun w' (hb:Below w.heap.size w w')=>y33h (zde s fv sv ov kv id w' (HW.out.later hb) h1 h2)
 have CM:=fun (hok:(zae s id).2=true) w' (hb:Below w.heap.size w w')=>y33h (ze4 s fv sv ov kv (zfv (zae s id).1) w' (HW.out.later hb) hsz hf h1 h2 (by show (zaf (zal s.k (zae s id).1.id s.r (s.count + 1)).l).length≤10000;rw [zmy hok];exact hk1) hk2 hk3 hc ht)
 have EA:=y33h (ztb (s:=s) (id:=id))
 have EB:=y33h (ztc (s:=s) (id:=id))
 have EC:=y33h (zz3 (s:=s) (id:=id))
 have ED:=y33h (zz4 (s:=s) (id:=id))
 clear hf h1 h2 hk1 hk2 hk3 hc ht hsz
 generalize zbd id=m at EA EB EC ED CN
 generalize hhd:(zae s id).1=hd at EB EC ED CD CM
 generalize hok:(zae s id).2=ok at EB EC ED CD CM
 clear hhd hok
 generalize delE s id=ue at *
 generalize delS s id=us at *
 cases m with
 | false =>
   have E:=y33h (EA.out rfl)
   clear EA EB EC ED
   rw [E.out.1,E.out.2]
   clear E
   go_enter Tryz.func80,Tryz.ntmps80
   go_wp2_with (first | (go_at_call 92;refine (CN _).out.mono ?_;rintro e w1 ⟨rfl,rfl⟩) | (refine wpList_load_mid (by rfl) 40 _ (by rfl) w.heap.size 0 (by rfl) (stA s fv sv ov kv).toList _ OA.out.range Tryz.underlying40 (by rfl) (by kernel_rfl) ?_) | (refine wpList_store_mid (by rfl) 40 _ _ (by rfl) (w.heap.size + 1) 0 (stA s fv sv ov kv) (by rfl) (by rfl) (OT.out.there (by rfl)) (by kernel_rfl) (by simp [Value.oneCell',hfv,hsv,hov,hkv]) ?_) | fail)
   have HK:=y33h (And.intro (OT.out.sets (stA s fv sv ov kv).toList (by rfl)) (zaa (b:=w.heap.size + 1) (by omega) (stA s fv sv ov kv).toList 0 BEL.out))
   clear OA OT BEL
   revert HK
   generalize World.setCells _ _ _ _=WW
   intro HK
   exact zab (by rfl) (by rfl) (by rfl) HK.out.1.range Tryz.underlying40 (by rfl) (by kernel_rfl) rfl ⟨sv,ov,kv,rfl,HW.out.later HK.out.2,.refl _ _ _ _ _ _,HK.out.2⟩
 | true =>
   clear EA
   have E:=y33h (EB.out rfl)
   clear EB
   by_cases hw:ok=true∧hd.d=false
   · replace EC:=y33h (EC.out rfl hw)
     replace ED:=y33h (ED.out rfl hw)
     clear E
     obtain ⟨rfl,hd0⟩:=hw
     have CM2:=fun w' (hb:Below w.heap.size w w')=>y33h (show Calls Tryz.prog 153 #[stV s fv sv ov kv,iV (zfv hd)] w' (fun e w''=>∃ sv' ov' kv',e=.returned (.tuple #[stV us fv sv' ov' kv',.int .i64 ue])∧StX w'' w'.heap.size s us sv ov kv sv' ov' kv'∧Below w'.heap.size w' w'') from (CM rfl w' hb).out.mono fun e w'' h=>by
       rcases h with ⟨hf,he,hb2⟩ | ⟨hf,sv',ov',kv',he,hst,hr,hb2⟩
       · rw [(EC.out hf).1,(EC.out hf).2]
         exact ⟨sv,ov,kv,he,.refl _ _ _ _ _ _,hb2⟩
       · rw [(ED.out hf).1,(ED.out hf).2]
         exact ⟨sv',ov',kv',he,.inr ⟨rfl,hr⟩,hb2⟩)
     clear CM EC ED
     obtain ⟨x1,x2,x3,x4,x5,x6,x7,x8,xd⟩:=hd
     change xd=false at hd0
     subst hd0
     go_enter Tryz.func80,Tryz.ntmps80
     go_wp2_with (first | (go_at_call 92;refine (CN _).out.mono ?_;rintro e w1 ⟨rfl,rfl⟩) | (go_at_call 68;refine (CD _ BEL.out).out.mono ?_;rintro e w2 ⟨rfl,hb⟩;replace OA:=y33h ((OA.out.later hb).alloc (.cells (iA (⟨x1,x2,x3,x4,x5,x6,x7,x8,true⟩:Itm)) 58));replace OT:=y33h ((OT.out.later hb).alloc (.cells (iA (⟨x1,x2,x3,x4,x5,x6,x7,x8,true⟩:Itm)) 58));replace BEL:=y33h ((BEL.out.trans (hb.mono BEL.out.size)).alloc ((BEL.out.trans (hb.mono BEL.out.size)).size) (.cells (iA (⟨x1,x2,x3,x4,x5,x6,x7,x8,true⟩:Itm)) 58));clear hb) | (go_at_call 153;refine (CM2 _ BEL.out).out.mono ?_;rintro e w3 ⟨sv',ov',kv',rfl,hx,hb⟩;have hst:=hx.lies HW.out (BEL.out.trans (hb.mono BEL.out.size));have hBs:=OT.out.lt;have hfv3:fv.oneCell'=true:=zas hst.lf;have hsv3:sv'.oneCell'=true:=(by obtain ⟨_,_,_,_,e,_⟩:=hst.ls;rw [e];rfl);have hov3:ov'.oneCell'=true:=(by obtain ⟨_,_,_,_,e,_⟩:=hst.lo;rw [e];rfl);have hkv3:kv'.oneCell'=true:=(by obtain ⟨_,_,e⟩:=hst.lk.val;rw [e];rfl);unfold Value.oneCell' at hfv3 hsv3 hov3 hkv3;have HST:=y33h hx;have HBS:=y33h hBs;have BE2:=y33h (BEL.out.trans (hb.mono BEL.out.size));have OT2:=y33h (OT.out.later hb);clear hst hx hb hBs) | (refine wpList_load_mid (by rfl) 40 _ (by rfl) w.heap.size 0 (by rfl) (stA s fv sv ov kv).toList _ OA.out.range Tryz.underlying40 (by rfl) (by kernel_rfl) ?_) | (refine wpList_store_mid (by rfl) 40 _ _ (by rfl) (w.heap.size + 1) 0 (stA us fv sv' ov' kv') (by rfl) (by rfl) (OT2.out.there (by rfl)) (by kernel_rfl) (by simp [Value.oneCell',hfv3,hsv3,hov3,hkv3]) ?_) | fail)
     have HK:=y33h (And.intro (OT2.out.sets (stA us fv sv' ov' kv').toList (by rfl)) (And.intro (zaa (b:=w.heap.size + 1) (by omega) (stA us fv sv' ov' kv').toList 0 BE2.out) (HST.out.sets HBS.out (stA us fv sv' ov' kv').toList)))
     have hle:=BEL.out.size
     clear OA OT BEL OT2 BE2 HST
     revert HK
     generalize World.setCells _ _ _ _=WW
     intro HK
     exact zab (by rfl) (by rfl) (by rfl) HK.out.1.range Tryz.underlying40 (by rfl) (by kernel_rfl) rfl ⟨sv',ov',kv',rfl,HK.out.2.2.lies HW.out HK.out.2.1,HK.out.2.2.mono hle,HK.out.2.1⟩
   · rw [(E.out hw).1,(E.out hw).2]
     clear E EC ED CM
     have hways:ok=false ∨ (ok=true∧hd.d=true):=by
       cases ok with
       | false=>exact .inl rfl
       | true =>
         refine .inr ⟨rfl,?_⟩
         cases hq:hd.d with
         | false=>exact absurd ⟨rfl,hq⟩ hw
         | true=>rfl
     clear hw
     obtain ⟨x1,x2,x3,x4,x5,x6,x7,x8,xd⟩:=hd
     change ok=false ∨ (ok=true∧xd=true) at hways
     rcases hways with rfl | ⟨rfl,rfl⟩
     · go_enter Tryz.func80,Tryz.ntmps80
       go_wp2_with (first | (go_at_call 92;refine (CN _).out.mono ?_;rintro e w1 ⟨rfl,rfl⟩) | (go_at_call 68;refine (CD _ BEL.out).out.mono ?_;rintro e w2 ⟨rfl,hb⟩;replace OA:=y33h ((OA.out.later hb).alloc (.cells (iA (⟨x1,x2,x3,x4,x5,x6,x7,x8,xd⟩:Itm)) 58));replace OT:=y33h ((OT.out.later hb).alloc (.cells (iA (⟨x1,x2,x3,x4,x5,x6,x7,x8,xd⟩:Itm)) 58));replace BEL:=y33h ((BEL.out.trans (hb.mono BEL.out.size)).alloc ((BEL.out.trans (hb.mono BEL.out.size)).size) (.cells (iA (⟨x1,x2,x3,x4,x5,x6,x7,x8,xd⟩:Itm)) 58));clear hb) | (refine wpList_load_mid (by rfl) 40 _ (by rfl) w.heap.size 0 (by rfl) (stA s fv sv ov kv).toList _ OA.out.range Tryz.underlying40 (by rfl) (by kernel_rfl) ?_) | (refine wpList_store_mid (by rfl) 40 _ _ (by rfl) (w.heap.size + 1) 0 (stA s fv sv ov kv) (by rfl) (by rfl) (OT.out.there (by rfl)) (by kernel_rfl) (by simp [Value.oneCell',hfv,hsv,hov,hkv]) ?_) | fail)
       have HK:=y33h (And.intro (OT.out.sets (stA s fv sv ov kv).toList (by rfl)) (zaa (b:=w.heap.size + 1) (by omega) (stA s fv sv ov kv).toList 0 BEL.out))
       clear OA OT BEL
       revert HK
       generalize World.setCells _ _ _ _=WW
       intro HK
       exact zab (by rfl) (by rfl) (by rfl) HK.out.1.range Tryz.underlying40 (by rfl) (by kernel_rfl) rfl ⟨sv,ov,kv,rfl,HW.out.later HK.out.2,.refl _ _ _ _ _ _,HK.out.2⟩
     · go_enter Tryz.func80,Tryz.ntmps80
       go_wp2_with (first | (go_at_call 92;refine (CN _).out.mono ?_;rintro e w1 ⟨rfl,rfl⟩) | (go_at_call 68;refine (CD _ BEL.out).out.mono ?_;rintro e w2 ⟨rfl,hb⟩;replace OA:=y33h ((OA.out.later hb).alloc (.cells (iA (⟨x1,x2,x3,x4,x5,x6,x7,x8,true⟩:Itm)) 58));replace OT:=y33h ((OT.out.later hb).alloc (.cells (iA (⟨x1,x2,x3,x4,x5,x6,x7,x8,true⟩:Itm)) 58));replace BEL:=y33h ((BEL.out.trans (hb.mono BEL.out.size)).alloc ((BEL.out.trans (hb.mono BEL.out.size)).size) (.cells (iA (⟨x1,x2,x3,x4,x5,x6,x7,x8,true⟩:Itm)) 58));clear hb) | (refine wpList_load_mid (by rfl) 40 _ (by rfl) w.heap.size 0 (by rfl) (stA s fv sv ov kv).toList _ OA.out.range Tryz.underlying40 (by rfl) (by kernel_rfl) ?_) | (refine wpList_store_mid (by rfl) 40 _ _ (by rfl) (w.heap.size + 1) 0 (stA s fv sv ov kv) (by rfl) (by rfl) (OT.out.there (by rfl)) (by kernel_rfl) (by simp [Value.oneCell',hfv,hsv,hov,hkv]) ?_) | fail)
       have HK:=y33h (And.intro (OT.out.sets (stA s fv sv ov kv).toList (by rfl)) (zaa (b:=w.heap.size + 1) (by omega) (stA s fv sv ov kv).toList 0 BEL.out))
       clear OA OT BEL
       revert HK
       generalize World.setCells _ _ _ _=WW
       intro HK
       exact zab (by rfl) (by rfl) (by rfl) HK.out.1.range Tryz.underlying40 (by rfl) (by kernel_rfl) rfl ⟨sv,ov,kv,rfl,HW.out.later HK.out.2,.refl _ _ _ _ _ _,HK.out.2⟩
end Go.Proofs.YtodfhabkdaiopaaGreat
