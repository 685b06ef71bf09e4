/- Joined: OpenK, RegN, Tree, LCM. -/
import Derived.Test.YtodfhabkdaiopaaGreatJ07
import Derived.Test.YtodfhabkdaiopaaGreatJ16
import Derived.Test.YtodfhabkdaiopaaGreatJ15
import Derived.Deep.Slices
import Derived.Test.YtodfhabkdaiopaaGreatJ17
import Derived.Test.YtodfhabkdaiopaaGreatJ01
import Derived.Deep.MidRow
import Derived.Test.YtodfhabkdaiopaaGreatJ11
import Derived.Test.YtodfhabkdaiopaaGreatJ14
namespace Go.Proofs.YtodfhabkdaiopaaGreat
set_option linter.unusedVariables false
set_option linter.unusedSimpArgs false
set_option maxRecDepth 100000
set_option maxHeartbeats 8000000
open Go.ChangeShapes Go.WideShapes Go.ChangeAt Go.RowKit Go.Deep
section
variable {H:Type} {enc:TypeId × Value→H} {w:World} {base:Nat} {spare:Nat→Bool} {held:Bool} {fuel:Nat} {cs:List Value} {x:DataW H × List MemPlace}
theorem zm2 (h:DataW.trod enc Tryz.prog w base spare held fuel 52 cs=some x):∃ r c:Int,cs=[.int .i64 r,.int .i64 c]∧c≤9223372036854775807:=by
 obtain ⟨xs,n,hn,hx,hl,hxl,hf⟩:=DataW.trod_struct Tryz.underlying52 h
 have hl':cs.length=2:=hl.trans (by kernel_rfl)
 have F:=fun i f hi=>zju (P:=Tryz.prog) (by kernel_rfl) (by rw [hl'];rfl) hxl hf i f hi
 match cs,hl' with
 | [c0,c1],_ =>
   obtain ⟨_,_,e0,t0⟩:=F 0 _ rfl
   obtain ⟨_,_,e1,t1⟩:=F 1 _ rfl
   obtain ⟨s0,k0,_⟩:=DataW.trod_int Tryz.underlying3 t0
   obtain ⟨s1,k1,_,z1⟩:=DataW.trod_int Tryz.underlying3 t1
   simp only [List.cons.injEq,and_true] at k0 k1
   simp at e0 e1
   subst e0 e1 k0 k1
   refine ⟨s0,s1,rfl,?_⟩
   simp [Lit.wf,IntKind.min,IntKind.max,IntKind.signed,IntKind.bits] at z1
   omega
end
end Go.Proofs.YtodfhabkdaiopaaGreat
namespace Go.Proofs.YtodfhabkdaiopaaGreat
set_option linter.unusedVariables false
set_option linter.unusedSimpArgs false
set_option maxRecDepth 100000
set_option maxHeartbeats 8000000
open Go Go.RowKit
structure But (T:Nat→Prop) (w w':World):Prop where
 size:w.heap.size≤w'.heap.size
 blk:∀ b,b < w.heap.size→¬ T b→w'.heap[b]?=w.heap[b]?
section
variable {T:Nat→Prop} {w w' w'':World}
theorem But.refl (w:World):But T w w:=⟨Nat.le_refl _,fun _ _ _=>rfl⟩
theorem But.trans (h:But T w w') (k:But T w' w''):But T w w'':=⟨Nat.le_trans h.size k.size,fun b hb ht=>(k.blk b (Nat.lt_of_lt_of_le hb h.size) ht).trans (h.blk b hb ht)⟩
theorem But.of (h:Later w w'):But T w w':=⟨h.size,fun b hb _=>h.block b hb⟩
theorem But.mono' {T':Nat→Prop} (h:But T' w w') (hT:∀ b,T' b→T b):But T w w':=⟨h.size,fun b hb ht=>h.blk b hb fun h'=>ht (hT b h')⟩
theorem But.set {b o:Nat} (hT:T b) (v:Value):But T w (w.setCell ⟨b,o,none⟩ v):=⟨by simp [World.setCell],fun k _ hk=>Below.heap_setCell _ _ _ _ (fun e=>hk (by subst e;exact hT))⟩
theorem But.sets {b:Nat} (hT:T b) (vs:List Value):∀ {w:World} (o:Nat),But T w (w.setCells b o vs):=by
 induction vs with
 | nil=>intro w o;exact But.refl _
 | cons u r ih=>intro w o;exact (But.set hT u).trans (ih (o + 1))
theorem Own.but {b:Nat} {c:Array Value} {t:TypeId} (h:Own w b c t) (hb:But T w w') (hT:¬ T b):Own w' b c t:=⟨by rw [hb.blk b h.lt hT];exact h.blk⟩
end
theorem zpp {b B:Nat} {a:World} (hB:B≤b) (vs:List Value):∀ {w:World} (o:Nat),Below B a w→Below B a (w.setCells b o vs):=by
 induction vs with
 | nil=>intro w o h;exact h
 | cons v r ih=>intro w o h;exact ih (o + 1) (h.setCell hB v)
def zcb (c:Array Value) (o:Nat):List Value→Array Value
 | []=>c
 | v :: r=>zcb (c.setIfInBounds o v) (o + 1) r
theorem zpc (vs:List Value):∀ (c:Array Value) (o:Nat),(zcb c o vs).size=c.size:=by
 induction vs with
 | nil=>intro c o;rfl
 | cons v r ih=>intro c o;rw [zcb,ih];simp
theorem zqb (vs:List Value):∀ (c:Array Value) (o j:Nat),j < c.size→(zcb c o vs)[j]?=if o≤j∧j < o + vs.length then vs[j - o]? else c[j]?:=by
 induction vs with
 | nil=>intro c o j hj;rw [zcb,if_neg (by simp only [List.length_nil];omega)]
 | cons v r ih =>
   intro c o j hj
   rw [zcb,ih _ _ _ (by simpa using hj)]
   by_cases e:j=o
   · subst e
     rw [if_neg (by omega),if_pos (by simp)]
     simp [hj]
   · by_cases h:o + 1≤j∧j < o + 1 + r.length
     · rw [if_pos h,if_pos (by simp only [List.length_cons];omega)]
       rw [show j - o=(j - (o + 1)) + 1 by omega,List.getElem?_cons_succ]
     · rw [if_neg h,if_neg (by simp only [List.length_cons];omega)]
       rw [Array.getElem?_setIfInBounds_ne (fun h'=>e h'.symm)]
theorem zqa (c:Array Value) (vs:List Value) (h:vs.length=c.size):zcb c 0 vs=vs.toArray:=by
 apply Array.ext_getElem?
 intro j
 by_cases hj:j < c.size
 · rw [zqb vs c 0 j hj,if_pos (by omega)];simp
 · rw [Array.getElem?_eq_none (by rw [zpc];omega),Array.getElem?_eq_none (by simp;omega)]
theorem Own.whole {w:World} {b:Nat} {C:Array Value} {vs:List Value} {t:TypeId} (h:Own w b (zcb C 0 vs) t) (hn:vs.length=C.size):Own w b vs.toArray t:=by rw [← zqa C vs hn];exact h
theorem zcc {b:Nat} {t:TypeId} (vs:List Value):∀ {w:World} {c:Array Value} (o:Nat),Own w b c t→Own (w.setCells b o vs) b (zcb c o vs) t:=by
 induction vs with
 | nil=>intro w c o h;exact h
 | cons v r ih=>intro w c o h;exact ih (o + 1) (h.set o v)
theorem zc9 {P:Program} {o:Oper} {a:Act} {w:World} (ty:TypeId) (x:Operand) (ho:o.op=.load ty x) (b off:Nat) (hx:a.eval x=.pointer (some ⟨b,off,none⟩)) (cs:List Value) (d:TypeDesc) (hc:w.rangeAt b off cs)
   (hu:P.underlying ty=some d) (hd:d.isRow=true) (hi:(P.info? ty).map (·.size)=some cs.length):(execOp a.eval o).run P w=.ok (.value (.agg cs.toArray)) w:=by
 unfold execOp
 simp only [ho,hx,Instr.loadAt,Instr.sureAddr,Sem.run_bind,Sem.run_pure,Result.andThen_ok,run_loadVar_mid w b off ty cs d hc hu hd hi]
section
variable {P:Program} {ops:Array Oper} {Q:Exit→Act→World→Prop} {md:Region.Mode} {T:Nat→Prop} {D:Nat→Bool}
def zcw (P:Program) (md:Region.Mode) (ops:Array Oper) (Q:Exit→Act→World→Prop) (T:Nat→Prop) (D:Nat→Bool) (fuel:Nat) (listed:Array Bool) (a:Act) (w:World):Prop :=
 match fuel with
 | 0=>Region.ready md ops listed=[]∧Q .normal a w
 | n + 1=>(Region.ready md ops listed=[]→Q .normal a w)∧∀ i∈Region.ready md ops listed,
     wpOp P ops Q i (fun a' w'=>(D i=false→Later w w')∧But T w w'∧zcw P md ops Q T D n (listed.setIfInBounds i true) a' w') a w
theorem zuc:∀ (n:Nat) {l:Array Bool} {a:Act} {w:World},zcw P md ops Q T D n l a w→wpAny P md ops Q n l a w:=by
 intro n
 induction n with
 | zero=>intro l a w h;exact h
 | succ n ih=>intro l a w h;exact ⟨h.1,fun i hi=>wpOp_mono (fun a' w' hk=>ih hk.2.2) (h.2 i hi)⟩
theorem zp5 {w0:World} {i:Nat} {oi:Oper} {v:Value} (hi:ops[i]?=some oi) (hsel:∀ (j:Nat) (o:Oper) cs b,ops[j]?=some o→o.op ≠ .select cs b) (hQ:∀ c a w,Q (.panic c) (a.put oi.dst v) w→Q (.panic c) a w) (hW:zlm md ops D i=true) :
   ∀ (n:Nat) {l:Array Bool} {a:Act} {w:World},(∀ j oj,ops[j]?=some oj→j ≠ i→l.getD j true=false→(∀ e∈oj.after,Region.binds md e=true→e.on ≠ i)→oi.apart ops oj=true) →
     i∈Region.ready md ops l→YieldsIf P ops (Later w0) oi v a→Later w0 w→zcw P md ops Q T D n (l.setIfInBounds i true) (a.put oi.dst v) w→zcw P md ops Q T D (n + 1) l a w:=by
 intro n
 induction n with
 | zero =>
   intro l a w _ hr hy hT H
   refine ⟨fun h=>(by rw [h] at hr;cases hr),fun j hj=>?_⟩
   rcases Decidable.em (j=i) with e | e
   · subst e;exact hy.wpOp hi hT ⟨fun _=>Below.refl _ _,But.refl _,H⟩
   · have hm:=ready_mono hj e
     rw [H.1] at hm;cases hm
 | succ n ih =>
   intro l a w hfree hr hy hT H
   refine ⟨fun h=>(by rw [h] at hr;cases hr),fun j hj=>?_⟩
   rcases Decidable.em (j=i) with e | e
   · subst e;exact hy.wpOp hi hT ⟨fun _=>Below.refl _ _,But.refl _,H⟩
   · obtain ⟨hun,oj,hoj,hall⟩:=mem_ready.1 hj
     have hli:=(mem_ready.1 hr).1
     have hDj:=zq9 hW hj hoj hli
     have hno:∀ k∈oj.after,Region.binds md k=true→k.on ≠ i:=by
       intro k hk hb hki
       have h1:=hall k hk hb
       rw [hki] at h1
       rcases Nat.lt_or_ge i l.size with hl | hl
       · simp [hl] at hli h1;rw [hli] at h1;cases h1
       · simp [Array.getElem?_eq_none hl] at hli
     have hstep:=wpOp_putIf hoj (hfree j oj hoj e hun hno) (fun cs b=>hsel i oi cs b hi) (fun cs b=>hsel j oj cs b hoj) hQ hy (H.2 j (ready_mono hj e))
     refine wpOp_mono (fun a' w' hk=>⟨hk.2.1,hk.2.2.1,ih ?_ (ready_mono hr (Ne.symm e)) hk.1 (hT.on (hk.2.1 hDj)) ?_⟩) hstep
     · intro k ok hok hki hku hkno
       refine hfree k ok hok hki ?_ hkno
       rcases Decidable.em (j=k) with ejk | ejk
       · subst ejk;exact hun
       · rw [getD_set_ne true ejk] at hku;exact hku
     · rw [Array.setIfInBounds_comm _ _ e];exact hk.2.2.2
theorem zou {w0:World} {i:Nat} {oi:Oper} {v:Value} (hi:ops[i]?=some oi) (hsel:∀ (j:Nat) (o:Oper) cs b,ops[j]?=some o→o.op ≠ .select cs b) (hQ:∀ c a w,Q (.panic c) (a.put oi.dst v) w→Q (.panic c) a w) :
   ∀ (n:Nat) {l:Array Bool} {a:Act} {w:World},(∀ j oj,ops[j]?=some oj→j ≠ i→l.getD j true=false→(∀ e∈oj.after,Region.binds md e=true→e.on ≠ i)→oi.apart ops oj=true) →
     i∈Region.ready md ops l→YieldsIf P ops (But T w0) oi v a→But T w0 w→zcw P md ops Q T D n (l.setIfInBounds i true) (a.put oi.dst v) w→zcw P md ops Q T D (n + 1) l a w:=by
 intro n
 induction n with
 | zero =>
   intro l a w _ hr hy hT H
   refine ⟨fun h=>(by rw [h] at hr;cases hr),fun j hj=>?_⟩
   rcases Decidable.em (j=i) with e | e
   · subst e;exact hy.wpOp hi hT ⟨fun _=>Below.refl _ _,But.refl _,H⟩
   · have hm:=ready_mono hj e
     rw [H.1] at hm;cases hm
 | succ n ih =>
   intro l a w hfree hr hy hT H
   refine ⟨fun h=>(by rw [h] at hr;cases hr),fun j hj=>?_⟩
   rcases Decidable.em (j=i) with e | e
   · subst e;exact hy.wpOp hi hT ⟨fun _=>Below.refl _ _,But.refl _,H⟩
   · obtain ⟨hun,oj,hoj,hall⟩:=mem_ready.1 hj
     have hli:=(mem_ready.1 hr).1
     have hno:∀ k∈oj.after,Region.binds md k=true→k.on ≠ i:=by
       intro k hk hb hki
       have h1:=hall k hk hb
       rw [hki] at h1
       rcases Nat.lt_or_ge i l.size with hl | hl
       · simp [hl] at hli h1;rw [hli] at h1;cases h1
       · simp [Array.getElem?_eq_none hl] at hli
     have hstep:=wpOp_putIf hoj (hfree j oj hoj e hun hno) (fun cs b=>hsel i oi cs b hi) (fun cs b=>hsel j oj cs b hoj) hQ hy (H.2 j (ready_mono hj e))
     refine wpOp_mono (fun a' w' hk=>⟨hk.2.1,hk.2.2.1,ih ?_ (ready_mono hr (Ne.symm e)) hk.1 (hT.trans hk.2.2.1) ?_⟩) hstep
     · intro k ok hok hki hku hkno
       refine hfree k ok hok hki ?_ hkno
       rcases Decidable.em (j=k) with ejk | ejk
       · subst ejk;exact hun
       · rw [getD_set_ne true ejk] at hku;exact hku
     · rw [Array.setIfInBounds_comm _ _ e];exact hk.2.2.2
theorem zcx {i:Nat} {oi:Oper} {v:Value} {n:Nat} {l:Array Bool} {a:Act} {w:World} (hi:ops[i]?=some oi) (hs:Region.noSelect ops=true) (hf:Region.free md ops l i=true) (hr:(Region.ready md ops l).contains i=true) (hW:zlm md ops D i=true)
   (hQ:∀ c a w,Q (.panic c) (a.put oi.dst v) w→Q (.panic c) a w) (hy:YieldsIf P ops (Later w) oi v a) (h:zcw P md ops Q T D n (l.setIfInBounds i true) (a.put oi.dst v) w):zcw P md ops Q T D (n + 1) l a w :=
 zp5 hi (Region.noSelect_spec hs) hQ hW n (Region.free_spec hi hf) (by simpa using hr) hy (Below.refl _ _) h
theorem zat {i:Nat} {oi:Oper} {v:Value} {n:Nat} {l:Array Bool} {a:Act} {w:World} (hi:ops[i]?=some oi) (hs:Region.noSelect ops=true) (hf:Region.free md ops l i=true) (hr:(Region.ready md ops l).contains i=true)
   (hQ:∀ c a w,Q (.panic c) (a.put oi.dst v) w→Q (.panic c) a w) (hy:YieldsIf P ops (But T w) oi v a) (h:zcw P md ops Q T D n (l.setIfInBounds i true) (a.put oi.dst v) w):zcw P md ops Q T D (n + 1) l a w :=
 zou hi (Region.noSelect_spec hs) hQ n (Region.free_spec hi hf) (by simpa using hr) hy (But.refl _) h
def znp (P:Program) (md:Region.Mode) (ops:Array Oper) (Q:Exit→Act→World→Prop) (T:Nat→Prop) (D:Nat→Bool) (i n:Nat) (l:Array Bool) (a:Act) (w:World):Prop :=
 wpOp P ops Q i (fun a' w'=>(D i=false→Later w w')∧But T w w'∧zcw P md ops Q T D n (l.setIfInBounds i true) a' w') a w
theorem zbw {i n:Nat} {l:Array Bool} {a:Act} {w:World} (hr:Region.ready md ops l=[i]) (h:znp P md ops Q T D i n l a w):zcw P md ops Q T D (n + 1) l a w:=by
 refine ⟨fun h0=>(by rw [h0] at hr;cases hr),fun j hj=>?_⟩
 rw [hr] at hj
 have e:j=i:=by simpa using hj
 subst e;exact h
theorem zcn {i n:Nat} {o:Oper} {l:Array Bool} {a:Act} {w:World} (ho:ops[i]?=some o) (hg:o.guard=none)
   (h:∀ K:Act→World→Prop,Shut (∀ a w',(D i=false→Later w w')→But T w w'→zcw P md ops Q T D n (l.setIfInBounds i true) a w'→K a w')→Oper.wp P o a w K Q):znp P md ops Q T D i n l a w :=
 wpOp_step ho (fun K hK=>by rw [if_pos (by simp [Region.wanted,hg])];exact h K (fun a w h1 h2 h3=>hK a w ⟨h1,h2,h3⟩))
structure StoreR (b:Nat) (w w1:World):Prop where
 but:But (fun k=>k=b) w w1
 bel:∀ {B:Nat} {w0:World},B≤b→Below B w0 w→Below B w0 w1
theorem StoreR.sets (b:Nat) (vs:List Value) (w:World) (o:Nat):StoreR b w (w.setCells b o vs):=⟨But.sets (T:=fun k=>k=b) rfl vs o,fun hb h=>zpp hb vs o h⟩
theorem StoreR.size {b:Nat} {w w1:World} (h:StoreR b w w1):w.heap.size≤w1.heap.size:=h.but.size
theorem zgc {i n:Nat} {o:Oper} {l:Array Bool} {a:Act} {w:World} (ho:ops[i]?=some o) (hg:o.guard=none) (ty:TypeId) (x y:Operand) (hop:o.op=.store ty x y) (b off:Nat) (cells:Array Value)
   (hx:a.eval x=.pointer (some ⟨b,off,none⟩)) (hy:a.eval y=.agg cells) {C:Array Value} {tb:TypeId} (hO:Own w b C tb) (hn:off + cells.size≤C.size) (hi:(P.info? ty).map (·.size)=some cells.size) (h1:cells.all (·.oneCell')=true) (hD:D i=true) (hT:T b)
   (h:∀ w1,StoreR b w w1→Own w1 b (zcb C off cells.toList) tb→zcw P md ops Q T D n (l.setIfInBounds i true) (a.put o.dst undef) w1):znp P md ops Q T D i n l a w :=
 zcn ho hg fun K hK =>
   wp_store_mid ty x y hop b off cells hx hy (fun j hj=>by
     rw [hO.cell (off + j)]
     exact ⟨by rw [Array.getElem?_eq_getElem (by omega)];rfl,hO.free (off + j)⟩) hi h1 (hK.out _ _ (fun h=>by rw [hD] at h;cases h) (But.sets hT _ _) (h _ (StoreR.sets _ _ _ _) (zcc _ _ hO)))
theorem zdl {i n:Nat} {o:Oper} {l:Array Bool} {a:Act} {w:World} (ho:ops[i]?=some o) (hg:o.guard=none) (b off:Nat) (v:Value) {C:Array Value} {tb:TypeId} (hO:Own w b C tb)
   (hrun:(execOp a.eval o).run P w=.ok .skip (w.setCell ⟨b,off,none⟩ v)) (hD:D i=true) (hT:T b)
   (h:∀ w1,StoreR b w w1→Own w1 b (C.setIfInBounds off v) tb→zcw P md ops Q T D n (l.setIfInBounds i true) (a.put o.dst undef) w1):znp P md ops Q T D i n l a w :=
 zcn ho hg fun K hK=>by
   unfold Oper.wp
   rw [hrun,Oper.upon_skip]
   exact hK.out _ _ (fun h=>by rw [hD] at h;cases h) (But.set hT v) (h _ (StoreR.sets b [v] w off) (hO.set off v))
structure AppR (row:Option Nat) (w w1:World):Prop where
 but:But (fun k=>some k=row) w w1
 bel:∀ {B:Nat} {w0:World},(∀ k,some k=row→B≤k)→Below B w0 w→B≤w.heap.size→Below B w0 w1
theorem AppR.of {row:Option Nat} {w w1:World} (h:w.grownBy w1 row):AppR row w w1 :=
 ⟨⟨h.size,fun b hb ht=>h.block b hb ht⟩,fun hk hb hB=>hb.grown h hB (fun k e=>hk k e.symm)⟩
theorem zf9 {id:Nat} {a:Act} {w:World} (hm:P.follows .mixedOrders=true) (h:∀ w1,Later w w1→zcw P .any ops Q T D ops.size (Array.replicate ops.size false) a w1):(Code.region id ops true).wp P Q a w :=
 wp_region_any hm (zuc _ (h _ (Below.refl _ _).drew))
theorem zg2 {l:Array Bool} {a:Act} {w:World} (hr:Region.ready md ops l=[]) (h:Q .normal a w):∀ n,zcw P md ops Q T D n l a w
 | 0=>⟨hr,h⟩
 | _ + 1=>⟨fun _=>h,by rw [hr];simp⟩
end
end Go.Proofs.YtodfhabkdaiopaaGreat
namespace Go.Proofs.YtodfhabkdaiopaaGreat
set_option linter.unusedVariables false
set_option linter.unusedSimpArgs false
set_option maxRecDepth 100000
set_option maxHeartbeats 8000000
open Go.ChangeShapes Go.WideShapes Go.ChangeAt Go.RowKit Go.Deep
section
variable {H:Type} {enc:TypeId × Value→H} {w:World} {base:Nat} {spare:Nat→Bool} {held:Bool}
theorem zu5 (fuel:Nat) (ih:∀ n,n < fuel→∀ (cs:List Value) (x:DataW H × List MemPlace),DataW.trod enc Tryz.prog w base spare held n 25 cs=some x→∃ p v,cs=tc p v∧Lies 6 tc (fun b=>b < w.heap.size) w p v)
   {cs:List Value} {x:DataW H × List MemPlace} (h:DataW.trod enc Tryz.prog w base spare held fuel 23 cs=some x) :
   ∃ (kids:List Pr) (v:Value),cs=[v]∧∀ op (t:ByteArray) n y z,t.size≤maxLen→Lies 6 tc (fun b=>b < w.heap.size) w (.node op t n y z kids) v:=by
 rcases DataW.trod_slice Tryz.underlying23 h with ⟨rfl,_⟩ | ⟨a,len,cap,elems,rest,n,hf,rfl,_,hb,hl,hm,hlen,hel,_,_⟩
 · exact ⟨[],_,rfl,fun op t n y z ht=>.mk op t n y z [] none 0 0 0 (fun _=>.nilFunc) ht (Nat.le_refl _) (Nat.zero_le _) (fun h=>absurd h (Nat.lt_irrefl _)) (fun i p h=>by simp at h) (fun i p h=>by simp at h)⟩
 · have hC:Tryz.prog.cellsOf 25=6:=by kernel_rfl
   rw [hC] at hel
   have key:∀ i,i < len→∃ p v,(∀ j u,(tc p v)[j]?=some u→w.cell? (a.add (i * 6 + j))=some u)∧Lies 6 tc (fun b=>b < w.heap.size) w p v:=by
     intro i hi
     have h1:=hel i hi
     rw [List.getElem?_eq_getElem (by omega)] at h1
     obtain ⟨cs',h2,h3⟩:=Option.bind_eq_some_iff.1 h1
     obtain ⟨_,hcl,hat⟩:=World.cells?_some h2
     obtain ⟨p,v,rfl,hL⟩:=ih n (by omega) cs' _ h3
     refine ⟨p,v,fun j u hu=>?_,hL⟩
     have hj:j < 6:=by
       have:=(List.getElem?_eq_some_iff.1 hu).1;simpa [tc] using this
     rw [← Go.Deep.add_add,hat j hj,hu]
   classical
   let P:Nat→Pr:=fun i=>if h:i < len then (key i h).choose else .node 0 ⟨#[]⟩ 0 0 0 []
   let V:Nat→Value:=fun i=>if h:i < len then (key i h).choose_spec.choose else .nilFunc
   have hPV:∀ i,i < len→(∀ j u,(tc (P i) (V i))[j]?=some u→w.cell? (a.add (i * 6 + j))=some u)∧Lies 6 tc (fun b=>b < w.heap.size) w (P i) (V i):=by
     intro i hi
     have:=(key i hi).choose_spec.choose_spec
     simp only [P,V,dif_pos hi]
     exact this
   have hk:∀ (i:Nat) (q:Pr),((List.range len).map P)[i]?=some q→i < len∧q=P i:=by
     intro i q hq
     rw [List.getElem?_map] at hq
     cases h:(List.range len)[i]? with
     | none=>rw [h] at hq;cases hq
     | some k =>
       rw [h] at hq
       obtain ⟨h1,h2⟩:=List.getElem?_eq_some_iff.1 h
       simp at h1 h2 hq
       subst h2
       exact ⟨h1,hq.symm⟩
   have hlk:((List.range len).map P).length=len:=by simp
   have hs:0 < len→a.spot=none∧a.block < w.heap.size:=by
     intro h0
     have h1:=(hPV 0 h0).1 0 _ rfl
     have e:a.add (0 * 6 + 0)=a:=by simp [Addr.add]
     rw [e] at h1
     exact ⟨World.cell?_spot h1,World.block_lt_of_cell? w _ h1⟩
   refine ⟨(List.range len).map P,_,rfl,fun op t n y z ht=>?_⟩
   have:=Lies.mk (sz:=6) (c:=tc) (S:=fun b=>b < w.heap.size) (w:=w) op t n y z ((List.range len).map P) (some a) cap a.block a.off V ht (by rw [hlk];exact hl) hm
     (fun h=>by
       rw [hlk] at h
       refine ⟨?_,(hs h).2⟩
       have h1:=(hs h).1
       obtain ⟨b,o,s⟩:=a
       simp only at h1;subst h1;rfl)
     (fun i p hp j u hu=>by
       obtain ⟨hi,rfl⟩:=hk i p hp
       have h1:=(hPV i hi).1 j u hu
       rw [zqj (hs (by omega)).1] at h1
       rw [Nat.add_assoc];exact h1)
     (fun i p hp=>by
       obtain ⟨hi,rfl⟩:=hk i p hp
       exact (hPV i hi).2)
   rw [hlk] at this
   exact this
theorem zm1 (fuel:Nat):∀ (cs:List Value) (x:DataW H × List MemPlace),DataW.trod enc Tryz.prog w base spare held fuel 25 cs=some x→∃ p v,cs=tc p v∧Lies 6 tc (fun b=>b < w.heap.size) w p v:=by
 induction fuel using Nat.strongRecOn with
 | ind fuel ih =>
   intro cs x h
   obtain ⟨xs,n,hn,hx,hl,hxl,hf⟩:=DataW.trod_struct Tryz.underlying25 h
   have hl':cs.length=6:=hl.trans (by kernel_rfl)
   have F:=fun i f hi=>zju (P:=Tryz.prog) (by kernel_rfl) (by rw [hl'];rfl) hxl hf i f hi
   match cs,hl' with
   | [c0,c1,c2,c3,c4,c5],_ =>
     obtain ⟨_,_,e0,t0⟩:=F 0 _ rfl
     obtain ⟨_,_,e1,t1⟩:=F 1 _ rfl
     obtain ⟨_,_,e2,t2⟩:=F 2 _ rfl
     obtain ⟨_,_,e3,t3⟩:=F 3 _ rfl
     obtain ⟨_,_,e4,t4⟩:=F 4 _ rfl
     obtain ⟨_,_,e5,t5⟩:=F 5 _ rfl
     obtain ⟨s0,k0,_,z0⟩:=DataW.trod_int Tryz.underlying3 t0
     obtain ⟨s1,k1,_,z1⟩:=DataW.trod_string Tryz.underlying9 t1
     obtain ⟨s2,k2,_,z2⟩:=DataW.trod_int Tryz.underlying3 t2
     obtain ⟨s3,k3⟩:=zdv Tryz.underlying22 t3
     obtain ⟨s4,k4⟩:=zdv Tryz.underlying22 t4
     obtain ⟨kids,v,k5,hL⟩:=zu5 n (fun n' hn'=>ih n' (by omega)) t5
     simp only [List.cons.injEq,and_true] at k0 k1 k2 k3 k4 k5
     simp at e0 e1 e2 e3 e4 e5
     subst e0 e1 e2 e3 e4 e5 k0 k1 k2 k3 k4 k5
     exact ⟨.node s0 s1 s2 s3 s4 kids,_,rfl,hL _ _ _ _ _ z1⟩
theorem zui {r:Reach} {b0:Nat} {v:Value} {d:DataW H} {p:List MemPlace} (hv:Value.okWide Tryz.prog w r b0 25 v) (h:DataW.Trod enc Tryz.prog w base spare held 25 v d p) :
   ∃ (q:Pr) (k:Value),v=.agg #[.int .i64 q.op,.string q.text,.int .i64 q.n,.float .f64 q.x,.float .f64 q.y,k]∧LT w q k:=by
 obtain ⟨l,rfl,hsz⟩:=okWide_struct Tryz.underlying25 hv
 obtain ⟨f,hf⟩:=h
 obtain ⟨q,k,e,hL⟩:=zm1 f _ _ hf
 refine ⟨q,k,?_,hL⟩
 obtain ⟨l⟩:=l
 have:l=_:=e
 rw [this];rfl
end
end Go.Proofs.YtodfhabkdaiopaaGreat
namespace Go.Proofs.YtodfhabkdaiopaaGreat
set_option linter.unusedVariables false
set_option linter.unusedSimpArgs false
set_option maxRecDepth 100000
set_option maxHeartbeats 8000000
open Go.RowKit
def posI (l:List Itm) (id:ByteArray):Nat:=l.countP fun i=>lsB i.id id
def hitI (l:List Itm) (id:ByteArray):Bool:=match l[posI l id]? with
 | some i=>i.id.toList == id.toList
 | none=>false
def toI (l:List Itm) (id:ByteArray):Nat:=if hitI l id=true then posI l id + 1 else posI l id
theorem zgi (l:List Itm) (id:ByteArray):posI l id≤l.length:=List.countP_le_length
theorem zox {l:List Itm} {id:ByteArray} (h:∀ i∈l,lsB i.id id=false):posI l id=0:=by
 unfold posI
 rw [List.countP_eq_zero]
 intro i hi;rw [h i hi];simp
theorem zg7 {a:Itm} {l:List Itm} {id:ByteArray} (h:zap (a :: l)):posI (a :: l) id=if lsB a.id id=true then posI l id + 1 else 0:=by
 split
 · rename_i h1;unfold posI;rw [List.countP_cons_of_pos (p:=fun i:Itm=>lsB i.id id) h1]
 · rename_i h1
   refine zox fun i hi=>?_
   rw [riseI_cons] at h
   rcases List.mem_cons.1 hi with e | hi
   · subst e;simpa using h1
   · cases h2:lsB i.id id with
     | false=>rfl
     | true=>exact absurd (zbs (h.1 i hi) h2) h1
theorem zly {l:List Itm} {id:ByteArray} (h:zap l):∀ {j:Nat} {i:Itm},l[j]?=some i→lsB i.id id=decide (j < posI l id):=by
 induction l with
 | nil=>intro j i hj;simp at hj
 | cons a l ih =>
   intro j i hj
   rw [zg7 h]
   have h':=riseI_cons.1 h
   cases j with
   | zero =>
     simp at hj;subst hj
     cases e:lsB a.id id <;> simp
   | succ j =>
     simp at hj
     rw [ih h'.2 hj]
     cases e:lsB a.id id with
     | true=>simp
     | false =>
       have:posI l id=0:=by
         refine zox fun i hi=>?_
         cases h2:lsB i.id id with
         | false=>rfl
         | true=>rw [zbs (h'.1 i hi) h2] at e;cases e
       rw [this];simp
theorem zpf {l:List Itm} {id:ByteArray} (h:zap l):l.take (posI l id)=l.filter fun i=>lsB i.id id:=by
 induction l with
 | nil=>rfl
 | cons a l ih =>
   have h':=riseI_cons.1 h
   rw [zg7 h]
   cases e:lsB a.id id with
   | true=>simp [e,ih h'.2]
   | false =>
     have:(a :: l).filter (fun i=>lsB i.id id)=[]:=by
       rw [List.filter_eq_nil_iff]
       intro i hi h2
       rcases List.mem_cons.1 hi with q | hi
       · subst q;rw [e] at h2;cases h2
       · rw [zbs (h'.1 i hi) h2] at e;cases e
     rw [this];simp
theorem zv3 {a:Itm} {l:List Itm} {id:ByteArray} (h:zap (a :: l)):hitI (a :: l) id=if lsB a.id id=true then hitI l id else (a.id.toList == id.toList):=by
 unfold hitI
 rw [zg7 h]
 cases e:lsB a.id id with
 | true=>simp only [if_true,List.getElem?_cons_succ]
 | false=>simp only [Bool.false_eq_true,if_false,List.getElem?_cons_zero]
theorem zqn {l:List Itm} {id:ByteArray} (h:zap l):l.drop (toI l id)=l.filter fun i=>gtB i.id id:=by
 induction l with
 | nil=>simp [toI]
 | cons a l ih =>
   have h':=riseI_cons.1 h
   have ih:=ih h'.2
   unfold toI at *
   rw [zv3 h,zg7 h]
   cases e:lsB a.id id with
   | true =>
     simp only [if_true]
     have e2:gtB a.id id=false:=by rw [zew];exact zeb e
     rw [List.filter_cons_of_neg (by simp [e2]),← ih]
     split <;> rfl
   | false =>
     have hall:∀ i∈l,gtB i.id id=true:=fun i hi=>by
       rw [zew]
       rcases zdy a.id id with h1 | h1 | h1
       · rw [h1] at e;cases e
       · rw [← h1];exact h'.1 i hi
       · exact zbs h1 (h'.1 i hi)
     simp only [if_false,Bool.false_eq_true]
     cases e2:(a.id.toList == id.toList) with
     | true =>
       have e3:gtB a.id id=false:=by rw [zew,tl_eq.1 e2];exact zbl _
       rw [List.filter_cons_of_neg (by simp [e3])]
       simp only [if_true,Nat.zero_add,List.drop_succ_cons,List.drop_zero]
       rw [List.filter_eq_self.2 hall]
     | false =>
       have e3:gtB a.id id=true:=by
         rw [zew]
         rcases zdy a.id id with h1 | h1 | h1
         · rw [h1] at e;cases e
         · exact absurd h1 (tl_ne.1 e2)
         · exact h1
       rw [List.filter_cons_of_pos (by simp [e3]),List.filter_eq_self.2 hall]
       simp
theorem zun {l:List Itm} {x:Itm} (h:zap l):l.take (posI l x.id) ++ ([x] ++ l.drop (toI l x.id))=putI l x:=by
 unfold putI
 rw [zpf h,zqn h,List.append_assoc]
theorem zrn {l:List Itm} {id:ByteArray} (h:zap l):l.take (posI l id) ++ l.drop (toI l id)=l.filter (neB id):=by
 rw [zpf h,zqn h]
 induction l with
 | nil=>rfl
 | cons a l ih =>
   have h':=riseI_cons.1 h
   have ih:=ih h'.2
   rcases zdy a.id id with h1 | h1 | h1
   · have e2:gtB a.id id=false:=by rw [zew];exact zeb h1
     have e3:neB id a=true:=by unfold neB;rw [Bool.not_eq_true',tl_ne];exact zfd h1
     rw [List.filter_cons_of_pos (by simp [h1]),List.filter_cons_of_neg (by simp [e2]),List.filter_cons_of_pos (by simp [e3]),List.cons_append,ih]
   · have e1:lsB a.id id=false:=by rw [h1];exact zbl _
     have e2:gtB a.id id=false:=by rw [zew,h1];exact zbl _
     have e3:neB id a=false:=by unfold neB;rw [Bool.not_eq_false',tl_eq];exact h1
     rw [List.filter_cons_of_neg (by simp [e1]),List.filter_cons_of_neg (by simp [e2]),List.filter_cons_of_neg (by simp [e3]),ih]
   · have e1:lsB a.id id=false:=zeb h1
     have e2:gtB a.id id=true:=by rw [zew];exact h1
     have e3:neB id a=true:=by unfold neB;rw [Bool.not_eq_true',tl_ne];exact fun q=>zfd h1 q.symm
     have hn:l.filter (fun i=>lsB i.id id)=[]:=by
       rw [List.filter_eq_nil_iff]
       intro i hi h2
       rw [zeb (zbs h1 (h'.1 i hi))] at h2;cases h2
     rw [hn] at ih
     rw [List.filter_cons_of_neg (by simp [e1]),List.filter_cons_of_pos (by simp [e2]),List.filter_cons_of_pos (by simp [e3]),hn,List.nil_append,← ih,List.nil_append]
theorem zv1 {l:List Itm} {id:ByteArray} (h:zap l) (hh:hitI l id=true):∃ i,l[posI l id]?=some i∧getI l id=(i,true):=by
 unfold hitI at hh
 cases e:l[posI l id]? with
 | none=>rw [e] at hh;cases hh
 | some i =>
   rw [e] at hh
   exact ⟨i,rfl,zfl h (List.mem_of_getElem? e) (tl_eq.1 hh)⟩
theorem zto {l:List Itm} {id:ByteArray} (h:zap l) (hh:hitI l id=false):getI l id=(Itm.zero,false):=by
 refine zc0 fun i hi e=>?_
 obtain ⟨j,hj,e'⟩:=List.mem_iff_getElem.1 hi
 have hj9:l[j]?=some i:=by rw [List.getElem?_eq_getElem hj,e']
 have h1:=zly (id:=id) h hj9
 rw [e,zbl] at h1
 have hge:posI l id≤j:=by
   have:=of_decide_eq_false h1.symm;omega
 by_cases hq:posI l id=j
 · unfold hitI at hh;rw [hq,hj9] at hh
   have hh':(i.id.toList == id.toList)=false:=hh
   rw [tl_eq.2 e] at hh';cases hh'
 · obtain ⟨p,hp⟩:∃ p,l[posI l id]?=some p:=⟨_,List.getElem?_eq_getElem (by omega)⟩
   have h2:=zly (id:=id) h hp
   rw [decide_eq_false (by omega)] at h2
   have h3:lsB p.id i.id=true:=by
     have hpw:=h
     unfold zap Rise at hpw
     rw [List.pairwise_map] at hpw
     have hp':=(List.getElem?_eq_some_iff.1 hp)
     have:=List.pairwise_iff_getElem.1 hpw (posI l id) j hp'.1 hj (by omega)
     rw [hp'.2,e'] at this
     exact this
   rw [e,h2] at h3;cases h3
def mrgI (f:Itm→Itm→Bool):List Itm→List Itm→List Itm
 | [],m=>m
 | l,[]=>l
 | x :: l,y :: m=>if lsB x.id y.id=true then x :: mrgI f l (y :: m) else if lsB y.id x.id=true then y :: mrgI f (x :: l) m else (if f y x=true then y else x) :: mrgI f l m
 termination_by l m=>l.length + m.length
theorem zdk (f:Itm→Itm→Bool) (m:List Itm):mrgI f [] m=m:=by rw [mrgI]
theorem zf0 (f:Itm→Itm→Bool) (l:List Itm):mrgI f l []=l:=by cases l <;> rw [mrgI];simp
theorem zep (f:Itm→Itm→Bool) (x y:Itm) (l m:List Itm):mrgI f (x :: l) (y :: m)=if lsB x.id y.id=true then x :: mrgI f l (y :: m) else if lsB y.id x.id=true then y :: mrgI f (x :: l) m else (if f y x=true then y else x) :: mrgI f l m:=by rw [mrgI]
theorem zii {l m:List Itm} (hl:zap l) (hm:zap m) (h:∀ i,i∈l ↔ i∈m):l=m:=by
 induction l generalizing m with
 | nil =>
   cases m with
   | nil=>rfl
   | cons b m=>have:=(h b).2 (by simp);simp at this
 | cons a l ih =>
   cases m with
   | nil=>have:=(h a).1 (by simp);simp at this
   | cons b m =>
     rw [riseI_cons] at hl hm
     have e:a=b:=by
       rcases List.mem_cons.1 ((h a).1 (by simp)) with e | ha
       · exact e
       rcases List.mem_cons.1 ((h b).2 (by simp)) with e | hb
       · exact e.symm
       have:=zbs (hl.1 b hb) (hm.1 a ha)
       rw [zbl] at this;cases this
     subst e
     congr 1
     refine ih hl.2 hm.2 fun i=>⟨fun hi=>?_,fun hi=>?_⟩
     · rcases List.mem_cons.1 ((h i).1 (by simp [hi])) with e | h'
       · subst e;have:=hl.1 i hi;rw [zbl] at this;cases this
       · exact h'
     · rcases List.mem_cons.1 ((h i).2 (by simp [hi])) with e | h'
       · subst e;have:=hm.1 i hi;rw [zbl] at this;cases this
       · exact h'
theorem zfh {l:List Itm} {i:Itm} (h:zap l):i∈l ↔ getI l i.id=(i,true):=by
 constructor
 · intro hi;exact zfl h hi rfl
 · intro hg
   rcases zco l i.id with ⟨j,hj,_,e⟩ | ⟨_,e⟩
   · rw [e] at hg;cases hg;exact hj
   · rw [e] at hg;exact absurd (congrArg Prod.snd hg) (by simp)
theorem zuu {l m:List Itm} (hl:zap l) (hm:zap m) (h:∀ id,getI l id=getI m id):l=m :=
 zii hl hm fun i=>by rw [zfh hl,zfh hm,h]
theorem zdi (a:Itm) (l:List Itm) (id:ByteArray):getI (a :: l) id=if a.id=id then (a,true) else getI l id:=by
 unfold getI
 rw [List.find?_cons]
 cases h:(a.id.toList == id.toList) with
 | true=>rw [if_pos (tl_eq.1 h)]
 | false=>rw [if_neg (tl_ne.1 h)]
theorem ziw {f:Itm→Itm→Bool}:∀ {n:Nat} {l m:List Itm} {i:Itm},l.length + m.length≤n→i∈mrgI f l m→i∈l ∨ i∈m:=by
 intro n
 induction n with
 | zero =>
   intro l m i hn hi
   have:l=[]:=List.length_eq_zero_iff.1 (by omega)
   subst this;rw [zdk] at hi;exact .inr hi
 | succ n ih =>
   intro l m i hn hi
   cases l with
   | nil=>rw [zdk] at hi;exact .inr hi
   | cons x l =>
     cases m with
     | nil=>rw [zf0] at hi;exact .inl hi
     | cons y m =>
       simp only [List.length_cons] at hn
       rw [zep] at hi
       split at hi
       · rcases List.mem_cons.1 hi with e | hi
         · subst e;exact .inl (by simp)
         · rcases ih (by simp only [List.length_cons];omega) hi with h | h
           · exact .inl (by simp [h])
           · exact .inr h
       · split at hi
         · rcases List.mem_cons.1 hi with e | hi
           · subst e;exact .inr (by simp)
           · rcases ih (by simp only [List.length_cons];omega) hi with h | h
             · exact .inl h
             · exact .inr (by simp [h])
         · rcases List.mem_cons.1 hi with e | hi
           · subst e;split
             · exact .inr (by simp)
             · exact .inl (by simp)
           · rcases ih (by omega) hi with h | h
             · exact .inl (by simp [h])
             · exact .inr (by simp [h])
theorem zwh {f:Itm→Itm→Bool}:∀ {n:Nat} {l m:List Itm},l.length + m.length≤n→zap l→zap m→zap (mrgI f l m):=by
 intro n
 induction n with
 | zero =>
   intro l m hn hl hm
   have:l=[]:=List.length_eq_zero_iff.1 (by omega)
   subst this;rw [zdk];exact hm
 | succ n ih =>
   intro l m hn hl hm
   cases l with
   | nil=>rw [zdk];exact hm
   | cons x l =>
     cases m with
     | nil=>rw [zf0];exact hl
     | cons y m =>
       simp only [List.length_cons] at hn
       have hl':=riseI_cons.1 hl
       have hm':=riseI_cons.1 hm
       rw [zep]
       split
       · rename_i h1
         refine riseI_cons.2 ⟨fun i hi=>?_,ih (by simp only [List.length_cons];omega) hl'.2 hm⟩
         rcases ziw (Nat.le_refl _) hi with h | h
         · exact hl'.1 i h
         · rcases List.mem_cons.1 h with e | h
           · subst e;exact h1
           · exact zbs h1 (hm'.1 i h)
       · rename_i h1
         split
         · rename_i h2
           refine riseI_cons.2 ⟨fun i hi=>?_,ih (by simp only [List.length_cons];omega) hl hm'.2⟩
           rcases ziw (Nat.le_refl _) hi with h | h
           · rcases List.mem_cons.1 h with e | h
             · subst e;exact h2
             · exact zbs h2 (hl'.1 i h)
           · exact hm'.1 i h
         · rename_i h2
           have e:x.id=y.id:=by
             rcases zdy x.id y.id with q | q | q
             · exact absurd q h1
             · exact q
             · exact absurd q h2
           refine riseI_cons.2 ⟨fun i hi=>?_,ih (by omega) hl'.2 hm'.2⟩
           have e2:(if f y x=true then y else x).id=x.id:=by split;exact e.symm;rfl
           rw [e2]
           rcases ziw (Nat.le_refl _) hi with h | h
           · exact hl'.1 i h
           · rw [e];exact hm'.1 i h
theorem zmh {x:Itm} {l:List Itm} {id:ByteArray} (h:∀ i∈l,lsB x.id i.id=true) (hid:id=x.id ∨ lsB id x.id=true):getI l id=(Itm.zero,false):=by
 refine zc0 fun i hi e=>?_
 have:=h i hi
 rw [e] at this
 rcases hid with q | q
 · rw [q,zbl] at this;cases this
 · have:=zbs q this;rw [zbl] at this;cases this
theorem zyu {f:Itm→Itm→Bool}:∀ {n:Nat} {l m:List Itm} (id:ByteArray),l.length + m.length≤n→zap l→zap m→getI (mrgI f l m) id=if (getI m id).2=true then (if (!(getI l id).2 || f (getI m id).1 (getI l id).1)=true then ((getI m id).1,true) else getI l id) else getI l id:=by
 intro n
 have nl:∀ m:List Itm,∀ id:ByteArray,getI m id=if (getI m id).2=true then (if (!(getI [] id).2 || f (getI m id).1 (getI [] id).1)=true then ((getI m id).1,true) else getI [] id) else getI [] id:=by
   intro m id
   rw [show getI [] id=(Itm.zero,false) from rfl]
   rcases zco m id with ⟨j,_,_,e⟩ | ⟨_,e⟩
   · rw [e];simp
   · rw [e];simp
 induction n with
 | zero =>
   intro l m id hn hl hm
   have:l=[]:=List.length_eq_zero_iff.1 (by omega)
   subst this;rw [zdk];exact nl m id
 | succ n ih =>
   intro l m id hn hl hm
   cases l with
   | nil=>rw [zdk];exact nl m id
   | cons x l =>
     cases m with
     | nil=>rw [zf0,show getI [] id=(Itm.zero,false) from rfl];simp
     | cons y m =>
       simp only [List.length_cons] at hn
       have hl':=riseI_cons.1 hl
       have hm':=riseI_cons.1 hm
       rw [zep]
       split
       · rename_i h1
         rw [zdi,ih id (by simp only [List.length_cons];omega) hl'.2 hm,zdi x l id]
         by_cases e:x.id=id
         · rw [if_pos e,if_pos e]
           have:getI (y :: m) id=(Itm.zero,false):=zmh (x:=x) (fun i hi=>by
             rcases List.mem_cons.1 hi with q | hi
             · rw [q];exact h1
             · exact zbs h1 (hm'.1 i hi)) (.inl e.symm)
           rw [this];simp
         · rw [if_neg e,if_neg e]
       · rename_i h1
         split
         · rename_i h2
           rw [zdi,ih id (by simp only [List.length_cons];omega) hl hm'.2,zdi y m id]
           by_cases e:y.id=id
           · rw [if_pos e,if_pos e]
             have:getI (x :: l) id=(Itm.zero,false):=zmh (x:=y) (fun i hi=>by
               rcases List.mem_cons.1 hi with q | hi
               · rw [q];exact h2
               · exact zbs h2 (hl'.1 i hi)) (.inl e.symm)
             rw [this];simp
           · rw [if_neg e,if_neg e]
         · rename_i h2
           have e:x.id=y.id:=by
             rcases zdy x.id y.id with q | q | q
             · exact absurd q h1
             · exact q
             · exact absurd q h2
           rw [zdi,ih id (by omega) hl'.2 hm'.2,zdi x l id,zdi y m id]
           have e2:(if f y x=true then y else x).id=x.id:=by split;exact e.symm;rfl
           rw [e2]
           by_cases q:x.id=id
           · rw [if_pos q,if_pos q,if_pos (e.symm.trans q)]
             cases hf:f y x <;> simp [hf]
           · rw [if_neg q,if_neg q,if_neg (fun h=>q (e.trans h))]
theorem zwg {f:Itm→Itm→Bool} {l m:List Itm} (hl:zap l) (hm:zap m):mrgI f l m=zar f l m :=
 zuu (zwh (Nat.le_refl _) hl hm) (zd7 m hl) fun id=>by rw [zyu id (Nat.le_refl _) hl hm,zjx m id hl hm]
end Go.Proofs.YtodfhabkdaiopaaGreat
