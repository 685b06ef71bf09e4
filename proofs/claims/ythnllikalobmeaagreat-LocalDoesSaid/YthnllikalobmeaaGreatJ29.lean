/- Joined: Open, OpenL, Tree, OpenSt. -/
import Derived.Test.YthnllikalobmeaaGreatJ28
import Derived.Test.YthnllikalobmeaaGreatJ04
import Derived.Test.YthnllikalobmeaaGreatJ14
import Derived.Deep.Slices
import Derived.Test.YthnllikalobmeaaGreatJ15
namespace Go.Proofs.YthnllikalobmeaaGreat
set_option linter.unusedVariables false
set_option linter.unusedSimpArgs false
set_option maxRecDepth 100000
set_option maxHeartbeats 8000000
open Go.ChangeShapes Go.WideShapes Go.ChangeAt Go.RowKit Go.Deep
section
variable {H:Type} {enc:TypeId × Value → H} {w:World} {base:Nat} {spare:Nat → Bool} {held:Bool} {fuel:Nat} {cs:List Value} {x:DataW H × List MemPlace}
def zvy (cs:List Value):Prop:=∃ (id:ByteArray) (r c st:Int) (kd:ByteArray) (n:Int) (x y:Nat) (d:Bool),
 cs = [.string id,.int .i64 r,.int .i64 c,.int .i64 st,.string kd,.int .i64 n,.float .f64 x,.float .f64 y,.bool d] ∧ id.size ≤ maxLen ∧ kd.size ≤ maxLen ∧
 (Lit.int .i64 r).wf = true ∧ (Lit.int .i64 c).wf = true ∧ (Lit.int .i64 st).wf = true ∧ (Lit.int .i64 n).wf = true
theorem zx2 (h:DataW.trod enc Tryz.prog w base spare held fuel 115 cs = some x):zvy cs:=by
 obtain ⟨xs,n,hn,hx,hl,hxl,hf⟩:=DataW.trod_struct Tryz.underlying115 h
 have hl':cs.length = 9:=hl.trans (by kernel_rfl)
 have F:=fun i f hi=>zof (P:=Tryz.prog) (by kernel_rfl) (by rw [hl'];rfl) hxl hf i f hi
 match cs,hl' with
 | [c0,c1,c2,c3,c4,c5,c6,c7,c8],_ =>
   obtain ⟨_,_,e0,t0⟩:=F 0 _ rfl
   obtain ⟨_,_,e1,t1⟩:=F 1 _ rfl
   obtain ⟨_,_,e2,t2⟩:=F 2 _ rfl
   obtain ⟨_,_,e3,t3⟩:=F 3 _ rfl
   obtain ⟨_,_,e4,t4⟩:=F 4 _ rfl
   obtain ⟨_,_,e5,t5⟩:=F 5 _ rfl
   obtain ⟨_,_,e6,t6⟩:=F 6 _ rfl
   obtain ⟨_,_,e7,t7⟩:=F 7 _ rfl
   obtain ⟨_,_,e8,t8⟩:=F 8 _ rfl
   obtain ⟨s0,k0,_,z0⟩:=DataW.trod_string Tryz.underlying9 t0
   obtain ⟨s1,k1,_,z1⟩:=DataW.trod_int Tryz.underlying3 t1
   obtain ⟨s2,k2,_,z2⟩:=DataW.trod_int Tryz.underlying3 t2
   obtain ⟨s3,k3,_,z3⟩:=DataW.trod_int Tryz.underlying3 t3
   obtain ⟨s4,k4,_,z4⟩:=DataW.trod_string Tryz.underlying9 t4
   obtain ⟨s5,k5,_,z5⟩:=DataW.trod_int Tryz.underlying3 t5
   obtain ⟨s6,k6⟩:=zdc Tryz.underlying22 t6
   obtain ⟨s7,k7⟩:=zdc Tryz.underlying22 t7
   obtain ⟨s8,k8,_⟩:=DataW.trod_bool Tryz.underlying4 t8
   simp only [List.cons.injEq,and_true] at k0 k1 k2 k3 k4 k5 k6 k7 k8
   simp at e0 e1 e2 e3 e4 e5 e6 e7 e8
   subst e0 e1 e2 e3 e4 e5 e6 e7 e8 k0 k1 k2 k3 k4 k5 k6 k7 k8
   exact ⟨s0,s1,s2,s3,s4,s5,s6,s7,s8,rfl,z0,z4,z1,z2,z3,z5⟩
end
end Go.Proofs.YthnllikalobmeaaGreat
namespace Go.Proofs.YthnllikalobmeaaGreat
set_option linter.unusedVariables false
set_option linter.unusedSimpArgs false
set_option maxRecDepth 100000
set_option maxHeartbeats 8000000
open Go.ChangeShapes Go.WideShapes Go.ChangeAt Go.RowKit Go.Deep
section
variable {H:Type} {enc:TypeId × Value → H} {w:World} {base:Nat} {spare:Nat → Bool} {held:Bool} {fuel:Nat} {cs:List Value} {x:DataW H × List MemPlace}
theorem zmz (h:DataW.trod enc Tryz.prog w base spare held fuel 26 cs = some x):∃ (l:List Itm) (v:Value),cs = [v] ∧ Row 9 rc w l v:=by
 rcases open_slice Tryz.underlying26 h with ⟨rfl,_⟩ | ⟨a,len,cap,m,n,D,Pl,rfl,_,hl,hm,hmm,_,hx⟩
 · exact ⟨[],_,rfl,none,0,0,0,rfl,Nat.le_refl _,by decide,fun h=>absurd h (by simp),fun k f hk=>by simp at hk,fun i hi=>by simp at hi⟩
 · have hlm:len ≤ m:=by rw [hmm];split <;> omega
   have hC:Tryz.prog.cellsOf 115 = 9:=by kernel_rfl
   rw [hC] at hx
   have key:∀ i,i < len → ∃ (f:Itm),(∀ j z,(rc f)[j]? = some z → w.cell? (a.add (i * 9 + j)) = some z) ∧ f.id.size ≤ maxLen ∧ f.kd.size ≤ maxLen:=by
     intro i hi
     obtain ⟨cs',h2,h3⟩:=hx i (by omega)
     obtain ⟨_,hcl,hat⟩:=World.cells?_some h2
     obtain ⟨id,r,c,st,kd,n,x,y,d,rfl,h4,h5,_⟩:=zx2 h3
     refine ⟨⟨id,r,c,st,kd,n,x,y,d⟩,fun j z hz=>?_,h4,h5⟩
     have hj:j < 9:=(List.getElem?_eq_some_iff.1 hz).1
     rw [← Go.Deep.add_add,hat j hj,hz]
   classical
   let F:Nat → Itm:=fun i=>if h:i < len then (key i h).choose else Itm.zero
   have hF:∀ i,i < len → (∀ j z,(rc (F i))[j]? = some z → w.cell? (a.add (i * 9 + j)) = some z) ∧ (F i).id.size ≤ maxLen ∧ (F i).kd.size ≤ maxLen:=by
     intro i hi
     have:=(key i hi).choose_spec
     simp only [F,dif_pos hi]
     exact this
   have hlk:((List.range len).map F).length = len:=by simp
   have hs:0 < len → a.spot = none ∧ a.block < w.heap.size:=by
     intro h0
     have h1:=(hF 0 h0).1 0 _ rfl
     have e:a.add (0 * 9 + 0) = a:=by simp [Addr.add]
     rw [e] at h1
     exact ⟨World.cell?_spot h1,World.block_lt_of_cell? w _ h1⟩
   refine ⟨(List.range len).map F,_,rfl,some a,cap,a.block,a.off,by rw [hlk],by rw [hlk];exact hl,hm,fun h=>?_,fun k f hk j z hz=>?_,fun f hf=>?_⟩
   · rw [hlk] at h
     exact ⟨congrArg some (zjj (hs h).1),(hs h).2⟩
   · obtain ⟨hk',rfl⟩:=zdr F hk
     have h1:=(hF k hk').1 j z hz
     rw [zip (hs (by omega)).1] at h1
     rw [Nat.add_assoc];exact h1
   · obtain ⟨k,hk,e⟩:=List.mem_iff_getElem.1 hf
     obtain ⟨hk',rfl⟩:=zdr F (by rw [List.getElem?_eq_getElem hk,e])
     exact (hF k hk').2
end
end Go.Proofs.YthnllikalobmeaaGreat
namespace Go.Proofs.YthnllikalobmeaaGreat
set_option linter.unusedVariables false
set_option linter.unusedSimpArgs false
set_option maxRecDepth 100000
set_option maxHeartbeats 8000000
open Go.ChangeShapes Go.WideShapes Go.ChangeAt Go.RowKit Go.Deep
section
variable {H:Type} {enc:TypeId × Value → H} {w:World} {base:Nat} {spare:Nat → Bool} {held:Bool}
theorem zvr (fuel:Nat) (ih:∀ n,n < fuel → ∀ (cs:List Value) (x:DataW H × List MemPlace),DataW.trod enc Tryz.prog w base spare held n 25 cs = some x → ∃ p v,cs = tc p v ∧ Lies 6 tc (fun b=>b < w.heap.size) w p v)
   {cs:List Value} {x:DataW H × List MemPlace} (h:DataW.trod enc Tryz.prog w base spare held fuel 23 cs = some x) :
   ∃ (kids:List Pr) (v:Value),cs = [v] ∧ ∀ op (t:ByteArray) n y z,t.size ≤ maxLen → Lies 6 tc (fun b=>b < w.heap.size) w (.node op t n y z kids) v:=by
 rcases DataW.trod_slice Tryz.underlying23 h with ⟨rfl,_⟩ | ⟨a,len,cap,elems,rest,n,hf,rfl,_,hb,hl,hm,hlen,hel,_,_⟩
 · exact ⟨[],_,rfl,fun op t n y z ht=>.mk op t n y z [] none 0 0 0 (fun _=>.nilFunc) ht (Nat.le_refl _) (Nat.zero_le _) (fun h=>absurd h (Nat.lt_irrefl _)) (fun i p h=>by simp at h) (fun i p h=>by simp at h)⟩
 · have hC:Tryz.prog.cellsOf 25 = 6:=by kernel_rfl
   rw [hC] at hel
   have key:∀ i,i < len → ∃ p v,(∀ j u,(tc p v)[j]? = some u → w.cell? (a.add (i * 6 + j)) = some u) ∧ Lies 6 tc (fun b=>b < w.heap.size) w p v:=by
     intro i hi
     have h1:=hel i hi
     rw [List.getElem?_eq_getElem (by omega)] at h1
     obtain ⟨cs',h2,h3⟩:=Option.bind_eq_some_iff.1 h1
     obtain ⟨_,hcl,hat⟩:=World.cells?_some h2
     obtain ⟨p,v,rfl,hL⟩:=ih n (by omega) cs' _ h3
     refine ⟨p,v,fun j u hu=>?_,hL⟩
     have hj:j < 6:=by
       have:=(List.getElem?_eq_some_iff.1 hu).1;simpa [tc] using this
     rw [← Go.Deep.add_add,hat j hj,hu]
   classical
   let P:Nat → Pr:=fun i=>if h:i < len then (key i h).choose else .node 0 ⟨#[]⟩ 0 0 0 []
   let V:Nat → Value:=fun i=>if h:i < len then (key i h).choose_spec.choose else .nilFunc
   have hPV:∀ i,i < len → (∀ j u,(tc (P i) (V i))[j]? = some u → w.cell? (a.add (i * 6 + j)) = some u) ∧ Lies 6 tc (fun b=>b < w.heap.size) w (P i) (V i):=by
     intro i hi
     have:=(key i hi).choose_spec.choose_spec
     simp only [P,V,dif_pos hi]
     exact this
   have hk:∀ (i:Nat) (q:Pr),((List.range len).map P)[i]? = some q → i < len ∧ q = P i:=by
     intro i q hq
     rw [List.getElem?_map] at hq
     cases h:(List.range len)[i]? with
     | none=>rw [h] at hq;cases hq
     | some k =>
       rw [h] at hq
       obtain ⟨h1,h2⟩:=List.getElem?_eq_some_iff.1 h
       simp at h1 h2 hq
       subst h2
       exact ⟨h1,hq.symm⟩
   have hlk:((List.range len).map P).length = len:=by simp
   have hs:0 < len → a.spot = none ∧ a.block < w.heap.size:=by
     intro h0
     have h1:=(hPV 0 h0).1 0 _ rfl
     have e:a.add (0 * 6 + 0) = a:=by simp [Addr.add]
     rw [e] at h1
     exact ⟨World.cell?_spot h1,World.block_lt_of_cell? w _ h1⟩
   refine ⟨(List.range len).map P,_,rfl,fun op t n y z ht=>?_⟩
   have:=Lies.mk (sz:=6) (c:=tc) (S:=fun b=>b < w.heap.size) (w:=w) op t n y z ((List.range len).map P) (some a) cap a.block a.off V ht (by rw [hlk];exact hl) hm
     (fun h=>by
       rw [hlk] at h
       refine ⟨?_,(hs h).2⟩
       have h1:=(hs h).1
       obtain ⟨b,o,s⟩:=a
       simp only at h1;subst h1;rfl)
     (fun i p hp j u hu=>by
       obtain ⟨hi,rfl⟩:=hk i p hp
       have h1:=(hPV i hi).1 j u hu
       rw [zip (hs (by omega)).1] at h1
       rw [Nat.add_assoc];exact h1)
     (fun i p hp=>by
       obtain ⟨hi,rfl⟩:=hk i p hp
       exact (hPV i hi).2)
   rw [hlk] at this
   exact this
theorem zik (fuel:Nat):∀ (cs:List Value) (x:DataW H × List MemPlace),DataW.trod enc Tryz.prog w base spare held fuel 25 cs = some x → ∃ p v,cs = tc p v ∧ Lies 6 tc (fun b=>b < w.heap.size) w p v:=by
 induction fuel using Nat.strongRecOn with
 | ind fuel ih =>
   intro cs x h
   obtain ⟨xs,n,hn,hx,hl,hxl,hf⟩:=DataW.trod_struct Tryz.underlying25 h
   have hl':cs.length = 6:=hl.trans (by kernel_rfl)
   have F:=fun i f hi=>zof (P:=Tryz.prog) (by kernel_rfl) (by rw [hl'];rfl) hxl hf i f hi
   match cs,hl' with
   | [c0,c1,c2,c3,c4,c5],_ =>
     obtain ⟨_,_,e0,t0⟩:=F 0 _ rfl
     obtain ⟨_,_,e1,t1⟩:=F 1 _ rfl
     obtain ⟨_,_,e2,t2⟩:=F 2 _ rfl
     obtain ⟨_,_,e3,t3⟩:=F 3 _ rfl
     obtain ⟨_,_,e4,t4⟩:=F 4 _ rfl
     obtain ⟨_,_,e5,t5⟩:=F 5 _ rfl
     obtain ⟨s0,k0,_,z0⟩:=DataW.trod_int Tryz.underlying3 t0
     obtain ⟨s1,k1,_,z1⟩:=DataW.trod_string Tryz.underlying9 t1
     obtain ⟨s2,k2,_,z2⟩:=DataW.trod_int Tryz.underlying3 t2
     obtain ⟨s3,k3⟩:=zdc Tryz.underlying22 t3
     obtain ⟨s4,k4⟩:=zdc Tryz.underlying22 t4
     obtain ⟨kids,v,k5,hL⟩:=zvr n (fun n' hn'=>ih n' (by omega)) t5
     simp only [List.cons.injEq,and_true] at k0 k1 k2 k3 k4 k5
     simp at e0 e1 e2 e3 e4 e5
     subst e0 e1 e2 e3 e4 e5 k0 k1 k2 k3 k4 k5
     exact ⟨.node s0 s1 s2 s3 s4 kids,_,rfl,hL _ _ _ _ _ z1⟩
theorem zu4 {r:Reach} {b0:Nat} {v:Value} {d:DataW H} {p:List MemPlace} (hv:Value.okWide Tryz.prog w r b0 25 v) (h:DataW.Trod enc Tryz.prog w base spare held 25 v d p) :
   ∃ (q:Pr) (k:Value),v = .agg #[.int .i64 q.op,.string q.text,.int .i64 q.n,.float .f64 q.x,.float .f64 q.y,k] ∧ LT w q k:=by
 obtain ⟨l,rfl,hsz⟩:=okWide_struct Tryz.underlying25 hv
 obtain ⟨f,hf⟩:=h
 obtain ⟨q,k,e,hL⟩:=zik f _ _ hf
 refine ⟨q,k,?_,hL⟩
 obtain ⟨l⟩:=l
 have:l = _:=e
 rw [this];rfl
end
end Go.Proofs.YthnllikalobmeaaGreat
namespace Go.Proofs.YthnllikalobmeaaGreat
set_option linter.unusedVariables false
set_option linter.unusedSimpArgs false
set_option maxRecDepth 100000
set_option maxHeartbeats 8000000
open Go.ChangeShapes Go.WideShapes Go.ChangeAt Go.RowKit Go.Deep
abbrev siL (s:St) (fv sv ov kv:Value):List Value:=[.int .i64 s.r,.int .i64 s.f.op,.string s.f.text,.int .i64 s.f.n,.float .f64 s.f.x,.float .f64 s.f.y,fv,sv,ov,.int .i64 (s.k.star 0),.int .i64 (s.k.star 1),.int .i64 (s.k.star 2),.int .i64 (s.k.star 3),.int .i64 (s.k.star 4),.int .i64 (s.k.star 5),.int .i64 (s.k.star 6),.int .i64 (s.k.star 7),kv,.int .i64 s.count,.int .i64 s.clock,.int .i64 s.epoch]
abbrev siV (s:St) (fv sv ov kv:Value):Value:=.agg #[.int .i64 s.r,.int .i64 s.f.op,.string s.f.text,.int .i64 s.f.n,.float .f64 s.f.x,.float .f64 s.f.y,fv,sv,ov,.int .i64 (s.k.star 0),.int .i64 (s.k.star 1),.int .i64 (s.k.star 2),.int .i64 (s.k.star 3),.int .i64 (s.k.star 4),.int .i64 (s.k.star 5),.int .i64 (s.k.star 6),.int .i64 (s.k.star 7),kv,.int .i64 s.count,.int .i64 s.clock,.int .i64 s.epoch]
structure SiW (w:World) (s:St) (fv sv ov kv:Value):Prop where
 lf:LT w s.f fv
 ls:Row 9 rc w s.store sv
 lo:Row 9 rc w s.out ov
 lk:FrW w s.k.l kv
theorem SiW.later {w w':World} {s:St} {fv sv ov kv:Value} (h:SiW w s fv sv ov kv) (hb:Below w.heap.size w w'):SiW w' s fv sv ov kv :=
 ⟨h.lf.later hb (Nat.le_refl _),h.ls.later hb,h.lo.later hb,h.lk.later hb (Nat.le_refl _)⟩
theorem SiW.alloc {w:World} {s:St} {fv sv ov kv:Value} (h:SiW w s fv sv ov kv) (o:Obj):SiW (w.alloc o) s fv sv ov kv:=h.later ((Below.refl _ _).alloc (Nat.le_refl _) _)
theorem SiW.drew {w:World} {s:St} {fv sv ov kv:Value} (h:SiW w s fv sv ov kv):SiW w.drew s fv sv ov kv:=h.later (Below.refl _ _).drew
structure De where
 what:Int
 id:ByteArray
 kd:ByteArray
 num:Int
 x:Nat
 y:Nat
 f:Pr
abbrev deL (d:De) (fv:Value):List Value:=[.int .i64 d.what,.string d.id,.string d.kd,.int .i64 d.num,.float .f64 d.x,.float .f64 d.y,.int .i64 d.f.op,.string d.f.text,.int .i64 d.f.n,.float .f64 d.f.x,.float .f64 d.f.y,fv]
abbrev deV (d:De) (fv:Value):Value:=.agg #[.int .i64 d.what,.string d.id,.string d.kd,.int .i64 d.num,.float .f64 d.x,.float .f64 d.y,.int .i64 d.f.op,.string d.f.text,.int .i64 d.f.n,.float .f64 d.f.x,.float .f64 d.f.y,fv]
structure DeW (w:World) (d:De) (fv:Value):Prop where
 lf:LT w d.f fv
 id:d.id.size ≤ maxLen
 kd:d.kd.size ≤ maxLen
 what:-9223372036854775808 ≤ d.what ∧ d.what ≤ 9223372036854775807
theorem DeW.later {w w':World} {d:De} {fv:Value} (h:DeW w d fv) (hb:Below w.heap.size w w'):DeW w' d fv:=⟨h.lf.later hb (Nat.le_refl _),h.id,h.kd,h.what⟩
section
variable {H:Type} {enc:TypeId × Value → H} {w:World} {base:Nat} {spare:Nat → Bool} {held:Bool} {fuel:Nat} {cs:List Value} {x:DataW H × List MemPlace}
theorem zvs (h:DataW.trod enc Tryz.prog w base spare held fuel 31 cs = some x):∃ (K:Kn) (u:Value),cs = [.int .i64 (K.star 0),.int .i64 (K.star 1),.int .i64 (K.star 2),.int .i64 (K.star 3),.int .i64 (K.star 4),.int .i64 (K.star 5),.int .i64 (K.star 6),.int .i64 (K.star 7),u] ∧ FrW w K.l u:=by
 obtain ⟨xs,n,hn,hx,hl,hxl,hf⟩:=DataW.trod_struct Tryz.underlying31 h
 have hl':cs.length = 9:=hl.trans (by kernel_rfl)
 have hxl':xs.length = 2:=hxl.trans (by kernel_rfl)
 have h0:DataW.trod enc Tryz.prog w base spare held n 28 ((cs.drop 0).take (Tryz.prog.cellsOf 28)) = xs[0]?:=hf 0 _ rfl
 have h1:DataW.trod enc Tryz.prog w base spare held n 29 ((cs.drop 8).take (Tryz.prog.cellsOf 29)) = xs[1]?:=hf 1 _ rfl
 rw [show Tryz.prog.cellsOf 28 = 8 by kernel_rfl,List.getElem?_eq_getElem (by omega)] at h0
 rw [show Tryz.prog.cellsOf 29 = 1 by kernel_rfl,List.getElem?_eq_getElem (by omega)] at h1
 match cs,hl' with
 | [c0,c1,c2,c3,c4,c5,c6,c7,c8],_ =>
   obtain ⟨A,e'⟩:=zp3 h0
   obtain ⟨l,u,e,ht⟩:=zte h1
   simp at e e'
   obtain ⟨e1,e2,e3,e4,e5,e6,e7,e8⟩:=e'
   subst e e1 e2 e3 e4 e5 e6 e7 e8
   exact ⟨⟨A,l⟩,_,rfl,ht⟩
theorem zx3 (h:DataW.trod enc Tryz.prog w base spare held fuel 33 cs = some x):∃ (s:St) (fv sv ov kv:Value),cs = siL s fv sv ov kv ∧ SiW w s fv sv ov kv:=by
 obtain ⟨xs,n,hn,hx,hl,hxl,hf⟩:=DataW.trod_struct Tryz.underlying33 h
 have hl':cs.length = 21:=hl.trans (by kernel_rfl)
 have hxl':xs.length = 8:=hxl.trans (by kernel_rfl)
 have g0:DataW.trod enc Tryz.prog w base spare held n 3 ((cs.drop 0).take (Tryz.prog.cellsOf 3)) = xs[0]?:=hf 0 _ rfl
 have g1:DataW.trod enc Tryz.prog w base spare held n 25 ((cs.drop 1).take (Tryz.prog.cellsOf 25)) = xs[1]?:=hf 1 _ rfl
 have g2:DataW.trod enc Tryz.prog w base spare held n 26 ((cs.drop 7).take (Tryz.prog.cellsOf 26)) = xs[2]?:=hf 2 _ rfl
 have g3:DataW.trod enc Tryz.prog w base spare held n 26 ((cs.drop 8).take (Tryz.prog.cellsOf 26)) = xs[3]?:=hf 3 _ rfl
 have g4:DataW.trod enc Tryz.prog w base spare held n 31 ((cs.drop 9).take (Tryz.prog.cellsOf 31)) = xs[4]?:=hf 4 _ rfl
 have g5:DataW.trod enc Tryz.prog w base spare held n 3 ((cs.drop 18).take (Tryz.prog.cellsOf 3)) = xs[5]?:=hf 5 _ rfl
 have g6:DataW.trod enc Tryz.prog w base spare held n 3 ((cs.drop 19).take (Tryz.prog.cellsOf 3)) = xs[6]?:=hf 6 _ rfl
 have g7:DataW.trod enc Tryz.prog w base spare held n 3 ((cs.drop 20).take (Tryz.prog.cellsOf 3)) = xs[7]?:=hf 7 _ rfl
 rw [show Tryz.prog.cellsOf 3 = 1 by kernel_rfl,List.getElem?_eq_getElem (by omega)] at g0 g5 g6 g7
 rw [show Tryz.prog.cellsOf 25 = 6 by kernel_rfl,List.getElem?_eq_getElem (by omega)] at g1
 rw [show Tryz.prog.cellsOf 26 = 1 by kernel_rfl,List.getElem?_eq_getElem (by omega)] at g2 g3
 rw [show Tryz.prog.cellsOf 31 = 9 by kernel_rfl,List.getElem?_eq_getElem (by omega)] at g4
 match cs,hl' with
 | [c0,c1,c2,c3,c4,c5,c6,c7,c8,c9,c10,c11,c12,c13,c14,c15,c16,c17,c18,c19,c20],_ =>
   obtain ⟨z0,k0,_⟩:=DataW.trod_int Tryz.underlying3 g0
   obtain ⟨q,kq,k1,hq⟩:=zik n _ _ g1
   obtain ⟨l2,v2,k2,r2⟩:=zmz g2
   obtain ⟨l3,v3,k3,r3⟩:=zmz g3
   obtain ⟨K,ku,k4,r4⟩:=zvs g4
   obtain ⟨z5,k5,_⟩:=DataW.trod_int Tryz.underlying3 g5
   obtain ⟨z6,k6,_⟩:=DataW.trod_int Tryz.underlying3 g6
   obtain ⟨z7,k7,_⟩:=DataW.trod_int Tryz.underlying3 g7
   simp [tc] at k0 k1 k2 k3 k4 k5 k6 k7
   obtain ⟨a1,a2,a3,a4,a5,a6⟩:=k1
   obtain ⟨b1,b2,b3,b4,b5,b6,b7,b8,b9⟩:=k4
   subst k0 a1 a2 a3 a4 a5 a6 k2 k3 b1 b2 b3 b4 b5 b6 b7 b8 b9 k5 k6 k7
   exact ⟨⟨z0,q,l2,l3,K,z5,z6,z7⟩,_,_,_,_,rfl,hq,r2,r3,r4⟩
theorem zph {r:Reach} {b0:Nat} {v:Value} {d:DataW H} {p:List MemPlace} (hv:Value.okWide Tryz.prog w r b0 33 v) (h:DataW.Trod enc Tryz.prog w base spare held 33 v d p) :
   ∃ (s:St) (fv sv ov kv:Value),v = siV s fv sv ov kv ∧ SiW w s fv sv ov kv:=by
 obtain ⟨l,rfl,hsz⟩:=okWide_struct Tryz.underlying33 hv
 obtain ⟨f,hf⟩:=h
 obtain ⟨s,fv,sv,ov,kv,e,hs⟩:=zx3 hf
 refine ⟨s,fv,sv,ov,kv,?_,hs⟩
 obtain ⟨l⟩:=l
 have:l = _:=e
 rw [this]
theorem zvp (h:DataW.trod enc Tryz.prog w base spare held fuel 57 cs = some x):∃ (d:De) (fv:Value),cs = deL d fv ∧ DeW w d fv:=by
 obtain ⟨xs,n,hn,hx,hl,hxl,hf⟩:=DataW.trod_struct Tryz.underlying57 h
 have hl':cs.length = 12:=hl.trans (by kernel_rfl)
 have hxl':xs.length = 7:=hxl.trans (by kernel_rfl)
 have g0:DataW.trod enc Tryz.prog w base spare held n 3 ((cs.drop 0).take (Tryz.prog.cellsOf 3)) = xs[0]?:=hf 0 _ rfl
 have g1:DataW.trod enc Tryz.prog w base spare held n 9 ((cs.drop 1).take (Tryz.prog.cellsOf 9)) = xs[1]?:=hf 1 _ rfl
 have g2:DataW.trod enc Tryz.prog w base spare held n 9 ((cs.drop 2).take (Tryz.prog.cellsOf 9)) = xs[2]?:=hf 2 _ rfl
 have g3:DataW.trod enc Tryz.prog w base spare held n 3 ((cs.drop 3).take (Tryz.prog.cellsOf 3)) = xs[3]?:=hf 3 _ rfl
 have g4:DataW.trod enc Tryz.prog w base spare held n 22 ((cs.drop 4).take (Tryz.prog.cellsOf 22)) = xs[4]?:=hf 4 _ rfl
 have g5:DataW.trod enc Tryz.prog w base spare held n 22 ((cs.drop 5).take (Tryz.prog.cellsOf 22)) = xs[5]?:=hf 5 _ rfl
 have g6:DataW.trod enc Tryz.prog w base spare held n 25 ((cs.drop 6).take (Tryz.prog.cellsOf 25)) = xs[6]?:=hf 6 _ rfl
 rw [show Tryz.prog.cellsOf 3 = 1 by kernel_rfl,List.getElem?_eq_getElem (by omega)] at g0 g3
 rw [show Tryz.prog.cellsOf 9 = 1 by kernel_rfl,List.getElem?_eq_getElem (by omega)] at g1 g2
 rw [show Tryz.prog.cellsOf 22 = 1 by kernel_rfl,List.getElem?_eq_getElem (by omega)] at g4 g5
 rw [show Tryz.prog.cellsOf 25 = 6 by kernel_rfl,List.getElem?_eq_getElem (by omega)] at g6
 match cs,hl' with
 | [c0,c1,c2,c3,c4,c5,c6,c7,c8,c9,c10,c11],_ =>
   obtain ⟨z0,k0,_,w0⟩:=DataW.trod_int Tryz.underlying3 g0
   obtain ⟨z1,k1,_,w1⟩:=DataW.trod_string Tryz.underlying9 g1
   obtain ⟨z2,k2,_,w2⟩:=DataW.trod_string Tryz.underlying9 g2
   obtain ⟨z3,k3,_⟩:=DataW.trod_int Tryz.underlying3 g3
   obtain ⟨z4,k4⟩:=zdc Tryz.underlying22 g4
   obtain ⟨z5,k5⟩:=zdc Tryz.underlying22 g5
   obtain ⟨q,kq,k6,hq⟩:=zik n _ _ g6
   simp [tc] at k0 k1 k2 k3 k4 k5 k6
   obtain ⟨a1,a2,a3,a4,a5,a6⟩:=k6
   subst k0 k1 k2 k3 k4 k5 a1 a2 a3 a4 a5 a6
   refine ⟨⟨z0,z1,z2,z3,z4,z5,q⟩,_,rfl,hq,w1,w2,?_⟩
   simp [Lit.wf,IntKind.min,IntKind.max,IntKind.signed,IntKind.bits] at w0
   omega
theorem zu3 {r:Reach} {b0:Nat} {v:Value} {d:DataW H} {p:List MemPlace} (hv:Value.okWide Tryz.prog w r b0 57 v) (h:DataW.Trod enc Tryz.prog w base spare held 57 v d p) :
   ∃ (q:De) (fv:Value),v = deV q fv ∧ DeW w q fv:=by
 obtain ⟨l,rfl,hsz⟩:=okWide_struct Tryz.underlying57 hv
 obtain ⟨f,hf⟩:=h
 obtain ⟨q,fv,e,hs⟩:=zvp hf
 refine ⟨q,fv,?_,hs⟩
 obtain ⟨l⟩:=l
 have:l = _:=e
 rw [this]
end
end Go.Proofs.YthnllikalobmeaaGreat
