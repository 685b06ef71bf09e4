/- Joined: RefSize, ListM, RefAlike, RefHas. -/
import Derived.Test.YthnllikalobmeaaGreatJ12
import Derived.Test.YthnllikalobmeaaGreatJ09
import Derived.Test.YthnllikalobmeaaGreatJ11
import Derived.Deep.CutBlock
import Derived.Deep.DeepCutAuto
import Derived.Test.YthnllikalobmeaaGreatJ13
import Derived.Test.YthnllikalobmeaaGreatJ08
import Derived.Test.YthnllikalobmeaaGreatJ01
namespace Go.Proofs.YthnllikalobmeaaGreat
set_option linter.unusedVariables false
set_option linter.unusedSimpArgs false
set_option maxRecDepth 100000
set_option maxHeartbeats 8000000
open Go.RowKit
theorem y14h {p:Prop} (h:p):Hid p:=Lib.hid h
theorem zqd (a b:Itm):upB a b = lsB a.id b.id:=by
 have h:=zdv b.id a.id
 unfold gtB at h
 exact h
theorem zji:∀ {l:List Itm},zce l = true ↔ Rise (l.map (·.id))
 | []=>by simp [zce,Rise]
 | [a]=>by simp [zce,Rise]
 | a :: b :: l=>by
   rw [zce,Bool.and_eq_true,zji (l:=b :: l),zqd]
   have e:(a :: b :: l).map (·.id) = a.id :: (b :: l).map (·.id):=rfl
   rw [e,rise_cons]
   constructor
   · rintro ⟨h1,h2⟩
     refine ⟨fun x hx=>?_,h2⟩
     rw [List.map_cons] at hx h2
     rcases List.mem_cons.1 hx with e | hx
     · subst e;exact h1
     · exact zba h1 ((rise_cons.1 h2).1 x hx)
   · rintro ⟨h1,h2⟩
     exact ⟨h1 b.id (by simp),h2⟩
abbrev zak (l:List Itm):Prop:=Rise (l.map (·.id))
theorem riseI_cons {a:Itm} {l:List Itm}:zak (a :: l) ↔ (∀ x ∈ l,lsB a.id x.id = true) ∧ zak l:=by
 unfold zak
 rw [List.map_cons,rise_cons]
 simp
theorem za5 {p:Itm → Bool} {l:List Itm} (h:zak l):zak (l.filter p):=by
 unfold zak Rise at *
 rw [List.pairwise_map] at *
 exact List.Pairwise.filter p h
theorem zku {l m:List Itm} (h1:zak l) (h2:zak m) (h:∀ a ∈ l,∀ b ∈ m,lsB a.id b.id = true):zak (l ++ m):=by
 unfold zak Rise at *
 rw [List.map_append,List.pairwise_append]
 refine ⟨h1,h2,fun a ha b hb=>?_⟩
 obtain ⟨x,hx,rfl⟩:=List.mem_map.1 ha
 obtain ⟨y,hy,rfl⟩:=List.mem_map.1 hb
 exact h x hx y hy
theorem zdi {l:List Itm} (h:zak l) {a b:Itm} (ha:a ∈ l) (hb:b ∈ l) (e:a.id = b.id):a = b:=by
 induction l with
 | nil=>simp at ha
 | cons x l ih =>
   rw [riseI_cons] at h
   rcases List.mem_cons.1 ha with ea | ha
   · rcases List.mem_cons.1 hb with eb | hb
     · rw [ea,eb]
     · have:=h.1 b hb;rw [← ea,e,za4] at this;cases this
   · rcases List.mem_cons.1 hb with eb | hb
     · have:=h.1 a ha;rw [← eb,e,za4] at this;cases this
     · exact ih h.2 ha hb
theorem zem {l:List Itm} {x:Itm} (h:zak l):zak (putI l x):=by
 unfold putI
 refine zku (zku (za5 h) (riseI_cons.2 ⟨by simp,by simp [zak,Rise]⟩) fun a ha b hb=>?_) (za5 h) fun a ha b hb=>?_
 · simp at hb;subst hb;exact (List.mem_filter.1 ha).2
 · have h2:=(List.mem_filter.1 hb).2
   rw [zdv] at h2
   rcases List.mem_append.1 ha with ha | ha
   · exact zba (List.mem_filter.1 ha).2 h2
   · simp at ha;subst ha;exact h2
theorem mem_put {l:List Itm} {x i:Itm}:i ∈ putI l x ↔ i = x ∨ (i ∈ l ∧ i.id ≠ x.id):=by
 unfold putI
 simp only [List.mem_append,List.mem_filter,List.mem_cons,List.not_mem_nil,or_false,zdv]
 constructor
 · rintro ((⟨h1,h2⟩ | h) | ⟨h1,h2⟩)
   · exact .inr ⟨h1,zez h2⟩
   · exact .inl h
   · exact .inr ⟨h1,fun e=>zez h2 e.symm⟩
 · rintro (h | ⟨h1,h2⟩)
   · exact .inl (.inr h)
   · rcases zcx i.id x.id with h | h | h
     · exact .inl (.inl ⟨h1,h⟩)
     · exact absurd h h2
     · exact .inr ⟨h1,h⟩
theorem mem_drop {l:List Itm} {id:ByteArray} {i:Itm}:i ∈ l.filter (neB id) ↔ i ∈ l ∧ i.id ≠ id:=by
 rw [List.mem_filter]
 unfold neB
 rw [Bool.not_eq_true',tl_ne]
theorem zej {l:List Itm} {id:ByteArray} {i:Itm} (h:zak l) (hi:i ∈ l) (e:i.id = id):getI l id = (i,true):=by
 unfold getI
 have hf:l.find? (fun i=>i.id.toList == id.toList) = some i:=by
   cases hq:l.find? (fun i=>i.id.toList == id.toList) with
   | none =>
     rw [List.find?_eq_none] at hq
     exact absurd (tl_eq.2 e) (hq i hi)
   | some j =>
     have hj:(j.id.toList == id.toList) = true:=List.find?_some (p:=fun i:Itm=>i.id.toList == id.toList) hq
     have hm:=List.mem_of_find?_eq_some hq
     rw [zdi h hm hi ((tl_eq.1 hj).trans e.symm)]
 rw [hf]
theorem zci {l:List Itm} {id:ByteArray} (h:∀ i ∈ l,i.id ≠ id):getI l id = (Itm.zero,false):=by
 unfold getI
 rw [show l.find? (fun i=>i.id.toList == id.toList) = none from List.find?_eq_none.2 fun i hi hq=>h i hi (tl_eq.1 hq)]
theorem zbt (l:List Itm) (id:ByteArray):(∃ i,i ∈ l ∧ i.id = id ∧ getI l id = (i,true)) ∨ ((∀ i ∈ l,i.id ≠ id) ∧ getI l id = (Itm.zero,false)):=by
 by_cases h:∃ i ∈ l,i.id = id
 · obtain ⟨i,hi,e⟩:=h
   left
   unfold getI
   cases hq:l.find? (fun i=>i.id.toList == id.toList) with
   | none=>rw [List.find?_eq_none] at hq;exact absurd (tl_eq.2 e) (hq i hi)
   | some j=>exact ⟨j,List.mem_of_find?_eq_some hq,tl_eq.1 (List.find?_some (p:=fun i:Itm=>i.id.toList == id.toList) hq),rfl⟩
 · right
   have h':∀ i ∈ l,i.id ≠ id:=fun i hi e=>h ⟨i,hi,e⟩
   exact ⟨h',zci h'⟩
theorem zmd {l m:List Itm} {id:ByteArray} (hl:zak l) (h:∀ i:Itm,i.id = id → (i ∈ l ↔ i ∈ m)):getI m id = getI l id:=by
 rcases zbt m id with ⟨i,hi,e,hg⟩ | ⟨hn,hg⟩
 · rw [hg,zej hl ((h i e).2 hi) e]
 · rw [hg,zci fun i hi e=>hn i ((h i e).1 hi) e]
theorem zod {l:List Itm} {x:Itm} (h:zak l) (id:ByteArray):getI (putI l x) id = if id = x.id then (x,true) else getI l id:=by
 split
 · rename_i e;exact zej (zem h) (mem_put.2 (.inl rfl)) e.symm
 · rename_i e
   refine zmd h fun i hi=>?_
   rw [mem_put]
   constructor
   · intro hm;exact .inr ⟨hm,fun e'=>e (hi.symm.trans e')⟩
   · rintro (rfl | h)
     · exact absurd hi.symm e
     · exact h.1
theorem ze6 {f:Itm → Itm → Bool} {l:List Itm} {y:Itm} (h:zak l):zak (zby f l y):=by
 unfold zby;split
 · exact zem h
 · exact h
theorem zdz {f:Itm → Itm → Bool} (b:List Itm):∀ {a:List Itm},zak a → zak (zao f a b):=by
 induction b with
 | nil=>intro a h;exact h
 | cons y b ih=>intro a h;exact ih (ze6 h)
theorem zlr {f:Itm → Itm → Bool} (b:List Itm):∀ {a:List Itm} {i:Itm},i ∈ zao f a b → i ∈ a ∨ i ∈ b:=by
 induction b with
 | nil=>intro a i h;exact .inl h
 | cons y b ih =>
   intro a i h
   have h':i ∈ zao f (zby f a y) b:=h
   rcases ih h' with h1 | h1
   · rcases zt7 h1 with h2 | h2
     · exact .inl h2
     · exact .inr (by simp [h2])
   · exact .inr (by simp [h1])
theorem zh8 {f:Itm → Itm → Bool} {l:List Itm} {y:Itm} (h:zak l) (id:ByteArray):getI (zby f l y) id = if id = y.id then (if (!(getI l id).2 || f y (getI l id).1) = true then (y,true) else getI l id) else getI l id:=by
 unfold zby
 by_cases e:id = y.id
 · subst e
   rw [if_pos rfl]
   split
   · rw [zod h,if_pos rfl]
   · rfl
 · rw [if_neg e]
   split
   · rw [zod h,if_neg e]
   · rfl
theorem zo4 {f:Itm → Itm → Bool} (b:List Itm):∀ {a:List Itm} {id:ByteArray},zak a → (∀ i ∈ b,i.id ≠ id) → getI (zao f a b) id = getI a id:=by
 induction b with
 | nil=>intro a id _ _;rfl
 | cons y b ih =>
   intro a id h hn
   have h':getI (zao f (zby f a y) b) id = getI (zby f a y) id:=ih (ze6 h) fun i hi=>hn i (by simp [hi])
   have:zao f a (y :: b) = zao f (zby f a y) b:=rfl
   rw [this,h',zh8 h,if_neg (fun e=>hn y (by simp) e.symm)]
theorem zmc {f:Itm → Itm → Bool} (b:List Itm):∀ {a:List Itm} (id:ByteArray),zak a → zak b → getI (zao f a b) id = if (getI b id).2 = true then (if (!(getI a id).2 || f (getI b id).1 (getI a id).1) = true then ((getI b id).1,true) else getI a id) else getI a id:=by
 induction b with
 | nil=>intro a id _ _;rw [show getI [] id = (Itm.zero,false) from rfl];rfl
 | cons y b ih =>
   intro a id ha hb
   rw [riseI_cons] at hb
   have e0:zao f a (y :: b) = zao f (zby f a y) b:=rfl
   by_cases e:id = y.id
   · have hn:∀ i ∈ b,i.id ≠ id:=by
       intro i hi e'
       have:=hb.1 i hi
       rw [e',e,za4] at this;cases this
     have hg:getI (y :: b) id = (y,true):=zej (riseI_cons.2 hb) (by simp) e.symm
     rw [e0,zo4 b (ze6 ha) hn,zh8 ha,if_pos e,hg,if_pos rfl]
   · have hg:getI (y :: b) id = getI b id:=zmd hb.2 fun i hi=>by
       constructor
       · intro h;simp [h]
       · intro h
         rcases List.mem_cons.1 h with rfl | h
         · exact absurd hi.symm e
         · exact h
     rw [e0,ih id (ze6 ha) hb.2,hg,zh8 ha,if_neg e]
theorem zkd:∀ {l m:List ByteArray},l.length ≠ m.length → zbo l m = false
 | [],[],h=>absurd rfl h
 | [],_ :: _,_=>rfl
 | _ :: _,[],_=>rfl
 | a :: l,b :: m,h=>by
   simp only [zbo,Bool.and_eq_false_iff]
   exact .inr (zkd fun e=>h (by simp [e]))
theorem zgo:∀ {l m:List ByteArray},l.length = m.length → (zbo l m = true ↔ ∀ (j:Nat) (a b:ByteArray),l[j]? = some a → m[j]? = some b → (a.toList == b.toList) = true)
 | [],[],_=>by simp [zbo]
 | [],_ :: _,h=>by simp at h
 | _ :: _,[],h=>by simp at h
 | a :: l,b :: m,h=>by
   simp only [zbo,Bool.and_eq_true]
   rw [zgo (by simpa using h)]
   constructor
   · rintro ⟨h1,h2⟩ j x y hx hy
     cases j with
     | zero=>simp at hx hy;subst hx hy;exact h1
     | succ j=>exact h2 j x y (by simpa using hx) (by simpa using hy)
   · intro h
     exact ⟨h 0 a b rfl rfl,fun j x y hx hy=>h (j + 1) x y (by simpa using hx) (by simpa using hy)⟩
theorem zsz {l m:List ByteArray} (hl:l.length = m.length) {j:Nat} {a b:ByteArray} (ha:l[j]? = some a) (hb:m[j]? = some b) (h:(a.toList == b.toList) = false):zbo l m = false:=by
 cases e:zbo l m with
 | false=>rfl
 | true=>rw [(zgo hl).1 e j a b ha hb] at h;cases h
theorem zkc:∀ {l m:List Fr},l.length ≠ m.length → zbg l m = false
 | [],[],h=>absurd rfl h
 | [],_ :: _,_=>rfl
 | _ :: _,[],_=>rfl
 | a :: l,b :: m,h=>by
   simp only [zbg,Bool.and_eq_false_iff]
   exact .inr (zkc fun e=>h (by simp [e]))
theorem zgn:∀ {l m:List Fr},l.length = m.length → (zbg l m = true ↔ ∀ (j:Nat) (a b:Fr),l[j]? = some a → m[j]? = some b → eqFr a b = true)
 | [],[],_=>by simp [zbg]
 | [],_ :: _,h=>by simp at h
 | _ :: _,[],h=>by simp at h
 | a :: l,b :: m,h=>by
   simp only [zbg,Bool.and_eq_true]
   rw [zgn (by simpa using h)]
   constructor
   · rintro ⟨h1,h2⟩ j x y hx hy
     cases j with
     | zero=>simp at hx hy;subst hx hy;exact h1
     | succ j=>exact h2 j x y (by simpa using hx) (by simpa using hy)
   · intro h
     exact ⟨h 0 a b rfl rfl,fun j x y hx hy=>h (j + 1) x y (by simpa using hx) (by simpa using hy)⟩
theorem zh5 {l m:List Fr} (hl:l.length = m.length) {j:Nat} {a b:Fr} (ha:l[j]? = some a) (hb:m[j]? = some b) (h:eqFr a b = false):zbg l m = false:=by
 cases e:zbg l m with
 | false=>rfl
 | true=>rw [(zgn hl).1 e j a b ha hb] at h;cases h
structure AlS (w:World) (X Y:Array Value) (wr:World):Prop where
 o1:Has wr w.heap.size X
 o2:Has wr (w.heap.size + 1) Y
 bel:Below w.heap.size w wr
theorem AlS.later {w wr w':World} {X Y:Array Value} (h:AlS w X Y wr) (hb:Below wr.heap.size wr w'):AlS w X Y w' :=
 ⟨h.o1.below hb h.o1.lt,h.o2.below hb h.o2.lt,h.bel.trans (hb.mono h.bel.size)⟩
def zxc (l m:List Fr) (len:Nat) (X Y:Array Value) (w:World) (iv:Value) (wr:World):Prop :=
 ∃ k:Nat,k ≤ len ∧ iv = .int .i64 k ∧ Hid (∀ j a b,j < k → l[j]? = some a → m[j]? = some b → eqFr a b = true) ∧ Hid (AlS w X Y wr)
def zv6 (l m:List ByteArray) (len:Nat) (X Y:Array Value) (w:World) (iv:Value) (wr:World):Prop :=
 ∃ k:Nat,k ≤ len ∧ iv = .int .i64 k ∧ Hid (∀ j a b,j < k → l[j]? = some a → m[j]? = some b → (a.toList == b.toList) = true) ∧ Hid (AlS w X Y wr)
theorem znc (a b:Kn) (v v':Value) (w:World) (hR:FrW w a.l v) (hM:FrW w b.l v') :
   Calls Tryz.prog 47 #[knV a.star v,knV b.star v'] w fun e w'=>e = .returned (.bool (zbk a b)) ∧ Below w.heap.size w w':=by
 obtain ⟨A,l⟩:=a
 obtain ⟨B,m⟩:=b
 simp only at hR hM ⊢
 obtain ⟨U,oa,cap,b0,o,rfl,hr⟩:=hR
 obtain ⟨U',oa',cap',b0',o',rfl,hr'⟩:=hM
 have HR:=y14h hr
 have HR':=y14h hr'
 have hcap:=hr.len
 have hmax:=hr.max
 have hcap':=hr'.len
 have hmax':=hr'.max
 unfold maxLen at hmax hmax'
 clear hr hr'
 have HE:=y14h (show zbk ⟨A,l⟩ ⟨B,m⟩ = (eqV A B && zbg l m) from rfl)
 generalize zbk ⟨A,l⟩ ⟨B,m⟩ = res at *
 generalize hn:l.length = len at *
 have HN:=y14h hn
 generalize hn':m.length = len' at *
 have HN':=y14h hn'
 clear hn hn'
 have I0:AlS w (knA A (.slice oa len cap)) (knA B (.slice oa' len' cap')) ((w.alloc (.cells (knA A (.slice oa len cap)) 31)).alloc (.cells (knA B (.slice oa' len' cap')) 31)) :=
   ⟨(Has.new w _ _).alloc _,(Own.newAt _ _ _ (by simp)).has,((Below.refl _ _).alloc (Nat.le_refl _) _).alloc (by simp) _⟩
 have HI0:=y14h I0
 clear I0
 have hq:=fun w'=>show (Op.equalIn 10000 28 (.agg #[.int .i64 (A 0),.int .i64 (A 1),.int .i64 (A 2),.int .i64 (A 3),.int .i64 (A 4),.int .i64 (A 5),.int .i64 (A 6),.int .i64 (A 7)]) (.agg #[.int .i64 (B 0),.int .i64 (B 1),.int .i64 (B 2),.int .i64 (B 3),.int .i64 (B 4),.int .i64 (B 5),.int .i64 (B 6),.int .i64 (B 7)])).run Tryz.prog w' = .ok (eqV A B) w' from zff A B w'
 cases hqq:eqV A B
 · rw [hqq] at hq
   have E:=y14h (show res = false by rw [HE.out,hqq];rfl)
   clear hqq
   go_enter Tryz.func47,Tryz.ntmps47
   go_wp2_with fail
   go_ret
   exact ⟨zaa E.out.symm,HI0.out.bel⟩
 rw [hqq] at hq
 have HE2:=y14h (show res = zbg l m by rw [HE.out,hqq];rfl)
 clear hqq HE
 by_cases hne:len = len'
 case neg =>
   have E:=y14h (show res = false by rw [HE2.out];exact zkc (by rw [HN.out,HN'.out];exact hne))
   have hne1:((len:Int) == (len':Int)) = false:=by simp;omega
   have hne2:((len:Int) != (len':Int)) = true:=by simp;omega
   go_enter Tryz.func47,Tryz.ntmps47
   go_wp2_with fail
   go_ret
   exact ⟨zaa E.out.symm,HI0.out.bel⟩
 subst hne
 go_enter Tryz.func47,Tryz.ntmps47
 go_wp2_with fail
 clear hq
 go_loopw [5] (fun iv wr=>zxc l m len (knA A (.slice oa len cap)) (knA B (.slice oa' len cap')) w iv wr) (fun iv _=>len - (intOf iv).toNat)
 case atStart=>exact ⟨0,Nat.zero_le _,rfl,fun j a b hj=>absurd hj (by omega),HI0⟩
 case round =>
   clear HI0
   obtain ⟨k,hk,rfl,HA,HS⟩:=hrel
   by_cases hlt:k < len
   · obtain ⟨f,hf⟩:∃ f,l[k]? = some f:=⟨_,List.getElem?_eq_getElem (by rw [HN.out];exact hlt)⟩
     obtain ⟨g,hg⟩:∃ g,m[k]? = some g:=⟨_,List.getElem?_eq_getElem (by rw [HN'.out];exact hlt)⟩
     obtain ⟨rfl,hb0⟩:=HR.out.at0 (by rw [HN.out];omega)
     obtain ⟨rfl,hb0'⟩:=HR'.out.at0 (by rw [HN'.out];omega)
     obtain ⟨ou,cu,bu,qu,hu,ht⟩:=HR.out.ids k f hf
     obtain ⟨ou',cu',bu',qu',hu',ht'⟩:=HR'.out.ids k g hg
     obtain ⟨c0,c1,c2,c3,c4,c5,c6,c7,c8⟩:=zbm (w:=wr) (fun j z hz=>(HS.out.bel.cell (p:=⟨b0,o + k * 9 + j,none⟩) hb0).trans (HR.out.cell k f hf j z hz))
     obtain ⟨d0,d1,d2,d3,d4,d5,d6,d7,d8⟩:=zbm (w:=wr) (fun j z hz=>(HS.out.bel.cell (p:=⟨b0',o' + k * 9 + j,none⟩) hb0').trans (HR'.out.cell k g hg j z hz))
     rw [hu] at c0
     rw [hu'] at d0
     have HF:=y14h hf
     have HG:=y14h hg
     have HU:=y14h hu
     have HU':=y14h hu'
     have HT:=y14h ht
     have HT':=y14h ht'
     have hcu:=ht.len
     have hmu:=ht.max
     have hcu':=ht'.len
     have hmu':=ht'.max
     unfold maxLen at hmu hmu'
     clear hf hg hu hu' ht ht'
     generalize hnf:f.ids.length = nf at *
     have HNF:=y14h hnf
     generalize hng:g.ids.length = ng at *
     have HNG:=y14h hng
     clear hnf hng
     have LA:=fun dd os q=>HS.out.o1.regrown dd os q
     have LB:=fun dd os q=>HS.out.o2.regrown dd os q
     have r0:=fun dd os=>cell_regrown c0 dd os
     have s0:=fun dd os=>cell_regrown d0 dd os
     have r1:=fun dd os=>cell_regrown c1 dd os
     have s1:=fun dd os=>cell_regrown d1 dd os
     have r2:=fun dd os=>cell_regrown c2 dd os
     have s2:=fun dd os=>cell_regrown d2 dd os
     have r3:=fun dd os=>cell_regrown c3 dd os
     have s3:=fun dd os=>cell_regrown d3 dd os
     have r4:=fun dd os=>cell_regrown c4 dd os
     have s4:=fun dd os=>cell_regrown d4 dd os
     have r5:=fun dd os=>cell_regrown c5 dd os
     have s5:=fun dd os=>cell_regrown d5 dd os
     have r6:=fun dd os=>cell_regrown c6 dd os
     have s6:=fun dd os=>cell_regrown d6 dd os
     have r7:=fun dd os=>cell_regrown c7 dd os
     have s7:=fun dd os=>cell_regrown d7 dd os
     have r8:=fun dd os=>cell_regrown c8 dd os
     have s8:=fun dd os=>cell_regrown d8 dd os
     clear c0 c1 c2 c3 c4 c5 c6 c7 c8 d0 d1 d2 d3 d4 d5 d6 d7 d8
     have l1:=HS.out.o1.cell
     have l2:=HS.out.o2.cell
     have z1:=HS.out.o1.lt
     have z2:=HS.out.o2.lt
     have k0:(0:Int) ≤ (k:Int):=by omega
     have k1:(k:Int) < (len:Int):=by omega
     have hq:=fun w'=>show (Op.equalIn 10000 28 (.agg #[.int .i64 (f.v 0),.int .i64 (f.v 1),.int .i64 (f.v 2),.int .i64 (f.v 3),.int .i64 (f.v 4),.int .i64 (f.v 5),.int .i64 (f.v 6),.int .i64 (f.v 7)]) (.agg #[.int .i64 (g.v 0),.int .i64 (g.v 1),.int .i64 (g.v 2),.int .i64 (g.v 3),.int .i64 (g.v 4),.int .i64 (g.v 5),.int .i64 (g.v 6),.int .i64 (g.v 7)])).run Tryz.prog w' = .ok (eqV f.v g.v) w' from zff f.v g.v w'
     cases hqq:eqV f.v g.v
     · rw [hqq] at hq
       have E:=y14h (show res = false by rw [HE2.out];exact zh5 (by rw [HN.out,HN'.out]) HF.out HG.out (by unfold eqFr;rw [hqq];rfl))
       clear hqq
       go_wp2_with fail
       refine wp_region_quiet_below (by kernel_rfl) (by kernel_rfl) ?_
       repeat (first | go_big_quiet_step (fail) | quiet_step (fail))
       refine wpQuiet_nil ?_
       intro w7 hw'
       have hb':=y14h (zae hw')
       clear hw'
       clear r0 s0 r1 s1 r2 s2 r3 s3 r4 s4 r5 s5 r6 s6 r7 s7 r8 s8 LA LB hq l1 l2
       go_wp2_with fail
       go_ret
       exact ⟨zaa E.out.symm,HS.out.bel.trans (hb'.out.mono HS.out.bel.size)⟩
     rw [hqq] at hq
     by_cases hne:nf = ng
     case neg =>
       have E:=y14h (show res = false by rw [HE2.out];exact zh5 (by rw [HN.out,HN'.out]) HF.out HG.out (by unfold eqFr;rw [zkd (by rw [HNF.out,HNG.out];exact hne)];simp))
       have hne1:((nf:Int) == (ng:Int)) = false:=by simp;omega
       have hne2:((nf:Int) != (ng:Int)) = true:=by simp;omega
       clear hqq
       go_wp2_with fail
       refine wp_region_quiet_below (by kernel_rfl) (by kernel_rfl) ?_
       repeat (first | go_big_quiet_step (fail) | quiet_step (fail))
       refine wpQuiet_nil ?_
       intro w7 hw'
       have hb':=y14h (zae hw')
       clear hw'
       clear r0 s0 r1 s1 r2 s2 r3 s3 r4 s4 r5 s5 r6 s6 r7 s7 r8 s8 LA LB hq l1 l2
       go_wp2_with fail
       go_ret
       exact ⟨zaa E.out.symm,HS.out.bel.trans (hb'.out.mono HS.out.bel.size)⟩
     subst hne
     have HQ:=y14h hqq
     clear hqq
     go_wp2_with fail
     refine wp_region_quiet_below (by kernel_rfl) (by kernel_rfl) ?_
     repeat (first | go_big_quiet_step (fail) | quiet_step (fail))
     refine wpQuiet_nil ?_
     intro w7 hw'
     have hb':=y14h (zae hw')
     clear hw'
     clear r0 s0 r1 s1 r2 s2 r3 s3 r4 s4 r5 s5 r6 s6 r7 s7 r8 s8 LA LB hq l1 l2 z1 z2
     have HS7:=y14h (HS.out.later hb'.out)
     clear hb' HS
     go_wp2_with fail
     go_loopw [6] (fun iv wr=>zv6 f.ids g.ids nf (knA A (.slice (some ⟨b0,o,none⟩) len cap)) (knA B (.slice (some ⟨b0',o',none⟩) len cap')) w iv wr) (fun iv _=>nf - (intOf iv).toNat)
     case atStart=>exact ⟨0,Nat.zero_le _,rfl,fun j a b hj=>absurd hj (by omega),HS7⟩
     case round =>
       clear HS7
       obtain ⟨j,hj,rfl,HB,HS⟩:=hrel
       have l1:=HS.out.o1.cell
       have l2:=HS.out.o2.cell
       have z1:=HS.out.o1.lt
       have z2:=HS.out.o2.lt
       obtain ⟨c0,_⟩:=zbm (w:=wr) (fun j z hz=>(HS.out.bel.cell (p:=⟨b0,o + k * 9 + j,none⟩) hb0).trans (HR.out.cell k f HF.out j z hz))
       obtain ⟨d0,_⟩:=zbm (w:=wr) (fun j z hz=>(HS.out.bel.cell (p:=⟨b0',o' + k * 9 + j,none⟩) hb0').trans (HR'.out.cell k g HG.out j z hz))
       rw [HU.out] at c0
       rw [HU'.out] at d0
       by_cases hjt:j < nf
       · obtain ⟨x,hx⟩:∃ x,f.ids[j]? = some x:=⟨_,List.getElem?_eq_getElem (by rw [HNF.out];exact hjt)⟩
         obtain ⟨y,hy⟩:∃ y,g.ids[j]? = some y:=⟨_,List.getElem?_eq_getElem (by rw [HNG.out];exact hjt)⟩
         obtain ⟨rfl,hb1⟩:=HT.out.at0 (by rw [HNF.out];omega)
         obtain ⟨rfl,hb1'⟩:=HT'.out.at0 (by rw [HNG.out];omega)
         have x0:=(HS.out.bel.cell (p:=⟨bu,qu + j,none⟩) hb1).trans (HT.out.cell j x hx)
         have y0:=(HS.out.bel.cell (p:=⟨bu',qu' + j,none⟩) hb1').trans (HT'.out.cell j y hy)
         have r0:=fun dd os=>cell_regrown c0 dd os
         have s0:=fun dd os=>cell_regrown d0 dd os
         have rx:=fun dd os=>cell_regrown x0 dd os
         have ry:=fun dd os=>cell_regrown y0 dd os
         have LA:=fun dd os q=>HS.out.o1.regrown dd os q
         have LB:=fun dd os q=>HS.out.o2.regrown dd os q
         have j0:(0:Int) ≤ (j:Int):=by omega
         have j1:(j:Int) < (nf:Int):=by omega
         have HX:=y14h hx
         have HY:=y14h hy
         clear hx hy x0 y0
         cases ht:(x.toList == y.toList)
         · have E:=y14h (show res = false by rw [HE2.out];exact zh5 (by rw [HN.out,HN'.out]) HF.out HG.out (by unfold eqFr;rw [zsz (by rw [HNF.out,HNG.out]) HX.out HY.out ht];simp))
           go_wp2_with fail
           refine wp_region_quiet_below (by kernel_rfl) (by kernel_rfl) ?_
           repeat (first | go_big_quiet_step (fail) | quiet_step (fail))
           refine wpQuiet_nil ?_
           intro w7 hw'
           have hb':=y14h (zae hw')
           clear hw'
           clear r0 s0 rx ry LA LB l1 l2
           go_wp2_with fail
           go_ret
           exact ⟨zaa E.out.symm,HS.out.bel.trans (hb'.out.mono HS.out.bel.size)⟩
         · have HB2:=y14h (show ∀ q a b,q < j + 1 → f.ids[q]? = some a → g.ids[q]? = some b → (a.toList == b.toList) = true from fun q a b hq ha hb=>by
             by_cases e:q = j
             · subst e;rw [HX.out] at ha;rw [HY.out] at hb;cases ha;cases hb;exact ht
             · exact HB.out q a b (by omega) ha hb)
           go_wp2_with fail
           refine wp_region_quiet_below (by kernel_rfl) (by kernel_rfl) ?_
           repeat (first | go_big_quiet_step (fail) | quiet_step (fail))
           refine wpQuiet_nil ?_
           intro w7 hw'
           have hb':=y14h (zae hw')
           clear hw'
           clear r0 s0 rx ry LA LB l1 l2
           have HS7:=y14h (HS.out.later hb'.out)
           go_wp2_with fail
           go_roundw
           case rel=>exact ⟨j + 1,by omega,by go_num,HB2,HS7⟩
           case measure=>simp [intOf];omega
       · have e:nf = j:=by omega
         subst e
         have HA2:=y14h (show ∀ q a b,q < k + 1 → l[q]? = some a → m[q]? = some b → eqFr a b = true from fun q a b hq ha hb=>by
           by_cases e:q = k
           · subst e
             rw [HF.out] at ha;rw [HG.out] at hb;cases ha;cases hb
             unfold eqFr
             rw [HQ.out,(zgo (by rw [HNF.out,HNG.out])).2 fun j x y hx hy=>HB.out j x y (by have:=posA hx;rw [HNF.out] at this;exact this) hx hy];rfl
           · exact HA.out q a b (by omega) ha hb)
         go_wp2_with fail
         go_roundw
         case rel=>exact ⟨k + 1,by omega,by go_num,HA2,HS⟩
         case measure=>simp [intOf];omega
   · have e:len = k:=by omega
     subst e
     have E:=y14h (show res = true by
       rw [HE2.out]
       exact (zgn (by rw [HN.out,HN'.out])).2 fun j x y hx hy=>HA.out j x y (by have:=posA hx;rw [HN.out] at this;exact this) hx hy)
     have l1:=HS.out.o1.cell
     have l2:=HS.out.o2.cell
     have z1:=HS.out.o1.lt
     have z2:=HS.out.o2.lt
     go_wp2_with fail
     go_ret
     exact ⟨zaa E.out.symm,HS.out.bel⟩
end Go.Proofs.YthnllikalobmeaaGreat
