/- Joined: ListW, ItemEq, ListKM, KnowM. -/
import Derived.Test.YthnllikalobmeaaGreatJ07
import Derived.Laws.StructEq
import Derived.Laws.Cover2
import Derived.Test.YthnllikalobmeaaGreatJ04
import Derived.Test.YthnllikalobmeaaGreatJ01
namespace Go.Proofs.YthnllikalobmeaaGreat
set_option linter.unusedVariables false
set_option linter.unusedSimpArgs false
set_option maxRecDepth 100000
set_option maxHeartbeats 8000000
open Go.RowKit
theorem Row.val {sz:Nat} {f:Itm → List Value} {w:World} {l:List Itm} {v:Value} (h:Row sz f w l v):∃ oa cap,v = .slice oa l.length cap:=by
 obtain ⟨oa,cap,_,_,e,_⟩:=h
 exact ⟨oa,cap,e⟩
theorem Row.alloc {sz:Nat} {f:Itm → List Value} {w:World} {l:List Itm} {v:Value} (h:Row sz f w l v) (o:Obj):Row sz f (w.alloc o) l v:=h.later ((Below.refl _ _).alloc (Nat.le_refl _) _)
theorem Row.drew {sz:Nat} {f:Itm → List Value} {w:World} {l:List Itm} {v:Value} (h:Row sz f w l v):Row sz f w.drew l v:=h.later (Below.refl _ _).drew
theorem Row.oks {sz:Nat} {f:Itm → List Value} {w:World} {l:List Itm} {v:Value} (h:Row sz f w l v):∀ i ∈ l,i.id.size ≤ maxLen ∧ i.kd.size ≤ maxLen:=by
 obtain ⟨_,_,_,_,_,h⟩:=h
 exact h.ok
abbrev iA (i:Itm):Array Value:=#[.string i.id,.int .i64 i.r,.int .i64 i.c,.int .i64 i.st,.string i.kd,.int .i64 i.num,.complex .f64 i.x i.y,.bool i.d]
theorem zfn (w:World) (z:Itm) (t:TypeId) (hz:z.id.size ≤ maxLen ∧ z.kd.size ≤ maxLen):Row 8 ic (w.alloc (.cells (iA z) t)) [z] (.slice (some ⟨w.heap.size,0,none⟩) 1 1):=by
 refine ⟨_,1,w.heap.size,0,rfl,Nat.le_refl _,by decide,fun _=>⟨rfl,by simp⟩,fun k i hk j u hu=>?_,fun i hi=>by simp at hi;subst hi;exact hz⟩
 match k,hk with
 | 0,hk =>
   simp at hk;subst hk
   have:=(Has.new w (iA z) t).cell j
   rw [Nat.zero_mul,Nat.zero_add,this]
   simpa using hu
def zba (l:List Itm):Bool:=l.all mayT && zcg l
theorem ze9 {f:Itm → Itm → Bool}:∀ {l:List Itm},(∀ i ∈ l,f i i = true) → zbt f l l = true
 | [],_=>rfl
 | a :: l,h=>by
   rw [zbt,h a (by simp),ze9 fun i hi=>h i (by simp [hi])];rfl
theorem zlq {l m:List Itm} {f:Itm → Itm → Bool}:(zat f l m).length ≤ l.length + m.length:=by
 unfold zat
 induction m generalizing l with
 | nil=>simp
 | cons y m ih =>
   have:=zx0 f l y
   have h:=ih (l:=zci f l y)
   rw [List.foldl_cons]
   simp only [List.length_cons];omega
theorem mayLB_iff {l:List Itm}:zba l = true ↔ (∀ i ∈ l,mayT i = true) ∧ zao l:=by
 unfold zba
 rw [Bool.and_eq_true,zk9,List.all_eq_true]
theorem zrj {l:List Itm} {x:Itm} (h:zba l = true) (hx:mayT x = true):zba (putI l x) = true:=by
 rw [mayLB_iff] at *
 refine ⟨fun i hi=>?_,zfj h.2⟩
 rcases zfb hi with h1 | h1
 · exact h.1 i h1
 · rw [h1];exact hx
theorem ze5 {l:List Itm} {p:Itm → Bool} (h:zba l = true):zba (l.filter p) = true:=by
 rw [mayLB_iff] at *
 exact ⟨fun i hi=>h.1 i (List.mem_filter.1 hi).1,zbh h.2⟩
theorem RowAt.take {sz:Nat} {f:Itm → List Value} {w:World} {l:List Itm} {oa:Option Addr} {cap b o:Nat} (h:RowAt sz f w l oa cap b o) (k:Nat):RowAt sz f w (l.take k) oa cap b o:=by
 refine ⟨by rw [List.length_take];have:=h.len;omega,h.max,fun h0=>h.at0 (by rw [List.length_take] at h0;omega),fun j i hj=>?_,fun i hi=>h.ok i (List.mem_of_mem_take hi)⟩
 rw [List.getElem?_take] at hj
 split at hj
 · exact h.cell j i hj
 · cases hj
theorem Row.take {sz:Nat} {f:Itm → List Value} {w:World} {l:List Itm} {oa:Option Addr} {n cap:Nat} (h:Row sz f w l (.slice oa n cap)) (k:Nat):Row sz f w (l.take k) (.slice oa (l.take k).length cap):=by
 obtain ⟨oa',cap',b,o,e,hr⟩:=h
 cases e
 exact ⟨oa,cap,b,o,rfl,hr.take k⟩
theorem Row.cap {sz:Nat} {f:Itm → List Value} {w:World} {l:List Itm} {oa:Option Addr} {n cap:Nat} (h:Row sz f w l (.slice oa n cap)):l.length ≤ cap ∧ cap ≤ maxLen:=by
 obtain ⟨oa',cap',b,o,e,hr⟩:=h
 cases e
 exact ⟨hr.len,hr.max⟩
structure Fr where
 ids:List ByteArray
 v:Nat → Int
structure Kn where
 star:Nat → Int
 l:List Fr
def eqV (A B:Nat → Int):Bool:=(List.range 8).all fun k=>A k == B k
theorem eqV_iff {A B:Nat → Int}:eqV A B = true ↔ ∀ k,k < 8 → A k = B k:=by simp [eqV,List.all_eq_true]
theorem zd4 (A:Nat → Int):eqV A A = true:=eqV_iff.2 fun _ _=>rfl
def zad:Nat → Int:=fun _=>0
def zfc (A:Nat → Int):Prop:=∀ j,8 ≤ j → A j = 0
theorem z0o {A B:Nat → Int} (hA:zfc A) (hB:zfc B) (h:eqV A B = true):A = B:=by
 funext j
 by_cases hj:j < 8
 · exact eqV_iff.1 h j hj
 · rw [hA j (by omega),hB j (by omega)]
def za5 (l:List ByteArray) (s:ByteArray):Bool:=l.any fun x=>x.toList == s.toList
theorem among_iff {l:List ByteArray} {s:ByteArray}:za5 l s = true ↔ s ∈ l:=by
 unfold za5
 rw [List.any_eq_true]
 constructor
 · rintro ⟨x,hx,e⟩;rw [tl_eq.1 e] at hx;exact hx
 · intro h;exact ⟨s,h,tl_eq.2 rfl⟩
def za4 (s:ByteArray) (st:List ByteArray × Bool) (a:ByteArray):List ByteArray × Bool :=
 let p:=!st.2 && leB s a
 let o:=if p = true then st.1 ++ [s] else st.1
 (if (a.toList == s.toList) = true then o else o ++ [a],st.2 || p)
def insF (s:ByteArray) (l:List ByteArray):List ByteArray × Bool:=l.foldl (za4 s) ([],false)
def insB (l:List ByteArray) (s:ByteArray):List ByteArray:=if (insF s l).2 = true then (insF s l).1 else (insF s l).1 ++ [s]
def insR (s:ByteArray):List ByteArray → List ByteArray
 | []=>[s]
 | a :: l=>if leB s a = true then s :: (a :: l).filter (fun x=>!(x.toList == s.toList)) else a :: insR s l
theorem zwo (s:ByteArray) (l:List ByteArray):∀ o:List ByteArray,l.foldl (za4 s) (o,true) = (o ++ l.filter (fun x=>!(x.toList == s.toList)),true):=by
 induction l with
 | nil=>intro o;simp
 | cons a l ih =>
   intro o
   rw [List.foldl_cons]
   have e:za4 s (o,true) a = (if (a.toList == s.toList) = true then o else o ++ [a],true):=by simp [za4]
   rw [e,ih]
   cases h:(a.toList == s.toList) <;> simp [h]
theorem z04 (s:ByteArray) (l:List ByteArray):∀ o:List ByteArray,(if (l.foldl (za4 s) (o,false)).2 = true then (l.foldl (za4 s) (o,false)).1 else (l.foldl (za4 s) (o,false)).1 ++ [s]) = o ++ insR s l:=by
 induction l with
 | nil=>intro o;simp [insR]
 | cons a l ih =>
   intro o
   rw [List.foldl_cons,insR]
   cases h:leB s a with
   | true =>
     have e:za4 s (o,false) a = (if (a.toList == s.toList) = true then o ++ [s] else o ++ [s] ++ [a],true):=by simp [za4,h]
     rw [e,zwo]
     cases h':(a.toList == s.toList) <;> simp [h']
   | false =>
     have hn:(a.toList == s.toList) = false:=tl_ne.2 (zfy (zo9 h))
     have e:za4 s (o,false) a = (o ++ [a],false):=by simp [za4,h,hn]
     rw [e,ih]
     simp
theorem zkr (l:List ByteArray) (s:ByteArray):insB l s = insR s l:=by
 exact (z04 s l []).trans (List.nil_append _)
theorem zrk {l:List ByteArray} {s x:ByteArray}:x ∈ insB l s ↔ x = s ∨ x ∈ l:=by
 rw [zkr]
 induction l with
 | nil=>simp [insR]
 | cons a l ih =>
   rw [insR]
   cases h:leB s a with
   | true =>
     simp only [if_true,List.mem_cons,List.mem_filter,Bool.not_eq_true',tl_ne]
     constructor
     · rintro (h | ⟨h,_⟩)
       · exact .inl h
       · exact .inr h
     · rintro (h | h)
       · exact .inl h
       · by_cases e:x = s
         · exact .inl e
         · exact .inr ⟨h,e⟩
   | false =>
     simp only [Bool.false_eq_true,if_false,List.mem_cons,ih]
     constructor
     · rintro (h | h | h)
       · exact .inr (.inl h)
       · exact .inl h
       · exact .inr (.inr h)
     · rintro (h | h | h)
       · exact .inr (.inl h)
       · exact .inl h
       · exact .inr (.inr h)
theorem zxr {l:List ByteArray} {s:ByteArray} (h:Rise l):Rise (insB l s):=by
 rw [zkr]
 induction l with
 | nil=>simp [insR,Rise]
 | cons a l ih =>
   rw [rise_cons] at h
   rw [insR]
   cases hs:leB s a with
   | true =>
     rw [if_pos rfl,rise_cons]
     refine ⟨fun x hx=>?_,zga (rise_cons.2 h)⟩
     rw [List.mem_filter] at hx
     obtain ⟨hx,hne⟩:=hx
     rw [Bool.not_eq_true',tl_ne] at hne
     have hax:x = a ∨ lsB a x = true:=by
       rcases List.mem_cons.1 hx with e | hx
       · exact .inl e
       · exact .inr (h.1 x hx)
     rcases le_iff.1 hs with h1 | h1
     · rcases hax with e | h2
       · subst e;exact h1
       · exact zbm h1 h2
     · subst h1
       rcases hax with e | h2
       · exact absurd e hne
       · exact h2
   | false =>
     rw [if_neg (by simp),rise_cons]
     refine ⟨fun x hx=>?_,ih h.2⟩
     rw [← zkr,zrk] at hx
     rcases hx with e | hx
     · subst e;exact zo9 hs
     · exact h.1 x hx
theorem zzh (l:List ByteArray) (s:ByteArray):(insB l s).length ≤ l.length + 1:=by
 rw [zkr]
 induction l with
 | nil=>simp [insR]
 | cons a l ih =>
   rw [insR]
   split
   · have:=List.length_filter_le (fun x:ByteArray=>!(x.toList == s.toList)) (a :: l)
     simp only [List.length_cons] at *;omega
   · simp only [List.length_cons];omega
def zbq (l:List ByteArray):List ByteArray:=l.foldl insB []
def zag (l:List Fr):List ByteArray:=l.flatMap (·.ids)
def zbd (k:Kn):List ByteArray:=zbq (zag k.l)
theorem zqk (l:List ByteArray) (s:ByteArray):zbq (l ++ [s]) = insB (zbq l) s:=by simp [zbq]
theorem zh3 (l:List ByteArray):∀ o:List ByteArray,Rise o → Rise (l.foldl insB o) ∧ (∀ x,x ∈ l.foldl insB o ↔ x ∈ o ∨ x ∈ l) ∧ (l.foldl insB o).length ≤ o.length + l.length:=by
 induction l with
 | nil=>intro o h;exact ⟨h,fun x=>by simp,by simp⟩
 | cons a l ih =>
   intro o h
   obtain ⟨h1,h2,h3⟩:=ih (insB o a) (zxr h)
   refine ⟨h1,fun x=>?_,?_⟩
   · rw [List.foldl_cons,h2,zrk,List.mem_cons]
     constructor
     · rintro ((h | h) | h)
       · exact .inr (.inl h)
       · exact .inl h
       · exact .inr (.inr h)
     · rintro (h | h | h)
       · exact .inl (.inr h)
       · exact .inl (.inl h)
       · exact .inr h
   · have:=zzh o a
     simp only [List.foldl_cons,List.length_cons] at *;omega
theorem zjx (l:List ByteArray):Rise (zbq l):=(zh3 l [] (by simp [Rise])).1
theorem mem_all {l:List ByteArray} {x:ByteArray}:x ∈ zbq l ↔ x ∈ l:=by
 have:=(zh3 l [] (by simp [Rise])).2.1 x
 unfold zbq
 simpa using this
theorem zir (l:List ByteArray):(zbq l).length ≤ l.length:=by
 have:=(zh3 l [] (by simp [Rise])).2.2
 unfold zbq
 simpa using this
theorem mem_names {k:Kn} {x:ByteArray}:x ∈ zbd k ↔ ∃ f ∈ k.l,x ∈ f.ids:=by
 unfold zbd zag
 rw [mem_all,List.mem_flatMap]
def zbz (id:ByteArray) (A:Nat → Int) (f:Fr):Nat → Int:=if za5 f.ids id = true then maxV A f.v else A
def rawF (l:List Fr) (id:ByteArray):Nat → Int:=l.foldl (zbz id) zad
def beyB (k:Kn) (id:ByteArray) (j:Nat):Int:=if j < 8 then (if rawF k.l id j ≤ k.star j then 0 else rawF k.l id j) else 0
theorem zhy (k:Kn) (id:ByteArray):zfc (beyB k id):=fun j hj=>by unfold beyB;rw [if_neg (by omega)]
theorem zic (id:ByteArray) (l:List Fr) (j:Nat):∀ A:Nat → Int,A j ≤ l.foldl (zbz id) A j ∧ (∀ f ∈ l,id ∈ f.ids → f.v j ≤ l.foldl (zbz id) A j) ∧ (l.foldl (zbz id) A j = A j ∨ ∃ f ∈ l,id ∈ f.ids ∧ l.foldl (zbz id) A j = f.v j):=by
 induction l with
 | nil=>intro A;simp
 | cons g l ih =>
   intro A
   rw [List.foldl_cons]
   obtain ⟨h1,h2,h3⟩:=ih (zbz id A g)
   have hs:A j ≤ zbz id A g j ∧ (id ∈ g.ids → g.v j ≤ zbz id A g j) ∧ (zbz id A g j = A j ∨ id ∈ g.ids ∧ zbz id A g j = g.v j):=by
     unfold zbz
     by_cases h:za5 g.ids id = true
     · rw [if_pos h]
       have hm:=among_iff.1 h
       unfold maxV
       split
       · exact ⟨by omega,fun _=>by omega,.inr ⟨hm,rfl⟩⟩
       · exact ⟨by omega,fun _=>by omega,.inl rfl⟩
     · rw [if_neg h]
       exact ⟨by omega,fun hm=>absurd (among_iff.2 hm) h,.inl rfl⟩
   refine ⟨by omega,fun f hf hm=>?_,?_⟩
   · rcases List.mem_cons.1 hf with e | hf
     · subst e;have:=hs.2.1 hm;omega
     · exact h2 f hf hm
   · rcases h3 with h3 | ⟨f,hf,hm,e⟩
     · rcases hs.2.2 with h | ⟨hm,h⟩
       · exact .inl (by rw [h3,h])
       · exact .inr ⟨g,by simp,hm,by rw [h3,h]⟩
     · exact .inr ⟨f,by simp [hf],hm,e⟩
theorem zda (l:List Fr) (id:ByteArray) (j:Nat):0 ≤ rawF l id j:=(zic id l j zad).1
theorem zgk {l:List Fr} {id:ByteArray} {f:Fr} (hf:f ∈ l) (hm:id ∈ f.ids) (j:Nat):f.v j ≤ rawF l id j:=(zic id l j zad).2.1 f hf hm
theorem zfk (l:List Fr) (id:ByteArray) (j:Nat):rawF l id j = 0 ∨ ∃ f ∈ l,id ∈ f.ids ∧ rawF l id j = f.v j:=(zic id l j zad).2.2
theorem zka (k:Kn) (id:ByteArray) (j:Nat):0 ≤ beyB k id j:=by
 unfold beyB
 have:=zda k.l id j
 split
 · split <;> omega
 · omega
theorem zxf {l:List Fr} {id:ByteArray} (h:∀ f ∈ l,id ∉ f.ids) (j:Nat):rawF l id j = 0:=by
 rcases zfk l id j with h' | ⟨f,hf,hm,_⟩
 · exact h'
 · exact absurd hm (h f hf)
theorem zjm {k:Kn} {id:ByteArray} (h:id ∉ zbd k):beyB k id = zad:=by
 have h0:=fun j=>zxf (l:=k.l) (id:=id) (fun f hf hm=>h (mem_names.2 ⟨f,hf,hm⟩)) j
 funext j
 unfold beyB zad
 rw [h0 j]
 split
 · split <;> rfl
 · rfl
theorem zk3 (l m:List Fr) (id:ByteArray) (j:Nat):rawF (l ++ m) id j = maxV (rawF l id) (rawF m id) j:=by
 have a1:=zda l id j
 have a2:=zda m id j
 have a3:=zda (l ++ m) id j
 have b1:rawF l id j ≤ rawF (l ++ m) id j:=by
   rcases zfk l id j with h | ⟨f,hf,hm,e⟩
   · omega
   · rw [e];exact zgk (by simp [hf]) hm j
 have b2:rawF m id j ≤ rawF (l ++ m) id j:=by
   rcases zfk m id j with h | ⟨f,hf,hm,e⟩
   · omega
   · rw [e];exact zgk (by simp [hf]) hm j
 have b3:rawF (l ++ m) id j ≤ rawF l id j ∨ rawF (l ++ m) id j ≤ rawF m id j:=by
   rcases zfk (l ++ m) id j with h | ⟨f,hf,hm,e⟩
   · left;omega
   · rcases List.mem_append.1 hf with hf | hf
     · left;rw [e];exact zgk hf hm j
     · right;rw [e];exact zgk hf hm j
 unfold maxV
 split <;> omega
def putF (v:Nat → Int) (id:ByteArray):List Fr → List Fr
 | []=>[⟨[id],v⟩]
 | f :: l=>if eqV f.v v = true then ⟨f.ids ++ [id],f.v⟩ :: l else f :: putF v id l
def zax (F:ByteArray → Nat → Int) (o:List Fr) (id:ByteArray):List Fr:=if eqV (F id) zad = true then o else putF (F id) id o
def grpF (F:ByteArray → Nat → Int) (ids:List ByteArray):List Fr:=ids.foldl (zax F) []
def zah (k:Kn):Kn:=⟨k.star,grpF (beyB k) (zbd k)⟩
def zap (k:Kn) (id:ByteArray) (r c:Int):Kn:=⟨k.star,k.l ++ [⟨[id],zaw zad r c⟩]⟩
def ownK (k:Kn) (id:ByteArray) (r c:Int):Kn:=if (r < 1 ∨ 8 < r ∨ c < 1) ∨ k.star (r - 1).toNat ≠ c - 1 then zap k id r c else ⟨zaw k.star r c,k.l⟩
def zcx (id:ByteArray) (r c:Int) (f:Fr):Bool:=za5 f.ids id && hasV f.v r c
def hasK (k:Kn) (id:ByteArray) (r c:Int):Bool:=hasV k.star r c || k.l.any (zcx id r c)
def zb9:List ByteArray → List ByteArray → Bool
 | [],[]=>true
 | a :: l,b :: m=>(a.toList == b.toList) && zb9 l m
 | _,_=>false
def eqFr (a b:Fr):Bool:=eqV a.v b.v && zb9 a.ids b.ids
def zbv:List Fr → List Fr → Bool
 | [],[]=>true
 | a :: l,b :: m=>eqFr a b && zbv l m
 | _,_=>false
def zbp (a b:Kn):Bool:=eqV a.star b.star && zbv a.l b.l
theorem zkl:∀ l:List ByteArray,zb9 l l = true
 | []=>rfl
 | a :: l=>by simp [zb9,zkl l]
theorem zkk:∀ l:List Fr,zbv l l = true
 | []=>rfl
 | a :: l=>by simp [zbv,eqFr,zd4,zkl,zkk l]
theorem znx {a b:Kn} (hs:eqV a.star b.star = true) (hl:a.l = b.l):zbp a b = true:=by
 unfold zbp;rw [hs,hl,zkk];rfl
theorem zev (a:Kn):zbp a a = true:=znx (zd4 _) rfl
theorem zko (F:ByteArray → Nat → Int) (ids:List ByteArray):∀ o:List Fr,ids.foldl (zax F) o = (ids.filter fun x=>!eqV (F x) zad).foldl (zax F) o:=by
 induction ids with
 | nil=>intro o;rfl
 | cons a l ih =>
   intro o
   rw [List.foldl_cons,ih]
   cases h:eqV (F a) zad with
   | true=>simp [h,zax]
   | false=>simp [h]
theorem zfh {v:Nat → Int} {id:ByteArray}:∀ {o:List Fr} {f:Fr},f ∈ putF v id o → f ∈ o ∨ f = ⟨[id],v⟩ ∨ ∃ g ∈ o,eqV g.v v = true ∧ f = ⟨g.ids ++ [id],g.v⟩
 | [],f,h=>by simp only [putF,List.mem_singleton] at h;exact .inr (.inl h)
 | g :: o,f,h=>by
   rw [putF] at h
   by_cases e:eqV g.v v = true
   · rw [if_pos e] at h
     rcases List.mem_cons.1 h with h | h
     · exact .inr (.inr ⟨g,by simp,e,h⟩)
     · exact .inl (by simp [h])
   · rw [if_neg e] at h
     rcases List.mem_cons.1 h with h | h
     · exact .inl (by simp [h])
     · rcases zfh h with h | h | ⟨g',hg,e',h⟩
       · exact .inl (by simp [h])
       · exact .inr (.inl h)
       · exact .inr (.inr ⟨g',by simp [hg],e',h⟩)
theorem zrr {v:Nat → Int} {id:ByteArray}:∀ {o:List Fr},∃ f ∈ putF v id o,id ∈ f.ids
 | []=>⟨⟨[id],v⟩,by simp [putF],by simp⟩
 | g :: o=>by
   rw [putF]
   by_cases e:eqV g.v v = true
   · rw [if_pos e];exact ⟨⟨g.ids ++ [id],g.v⟩,by simp,by simp⟩
   · rw [if_neg e]
     obtain ⟨f,hf,hm⟩:=zrr (v:=v) (id:=id) (o:=o)
     exact ⟨f,by simp [hf],hm⟩
theorem zmr {v:Nat → Int} {id x:ByteArray}:∀ {o:List Fr},(∃ f ∈ o,x ∈ f.ids) → ∃ f ∈ putF v id o,x ∈ f.ids
 | [],⟨f,hf,_⟩=>by simp at hf
 | g :: o,⟨f,hf,hm⟩=>by
   rw [putF]
   by_cases e:eqV g.v v = true
   · rw [if_pos e]
     rcases List.mem_cons.1 hf with h | h
     · subst h;exact ⟨⟨f.ids ++ [id],f.v⟩,by simp,by simp [hm]⟩
     · exact ⟨f,by simp [h],hm⟩
   · rw [if_neg e]
     rcases List.mem_cons.1 hf with h | h
     · subst h;exact ⟨f,by simp,hm⟩
     · obtain ⟨f',hf',hm'⟩:=zmr (v:=v) (id:=id) (o:=o) ⟨f,h,hm⟩
       exact ⟨f',by simp [hf'],hm'⟩
theorem zue {F:ByteArray → Nat → Int} (hF:∀ x,zfc (F x)) (ids:List ByteArray):∀ o:List Fr,(∀ f ∈ o,zfc f.v ∧ ∀ x ∈ f.ids,f.v = F x) →
   (∀ f ∈ ids.foldl (zax F) o,zfc f.v ∧ ∀ x ∈ f.ids,f.v = F x) ∧ (∀ x,(∃ f ∈ o,x ∈ f.ids) ∨ (x ∈ ids ∧ eqV (F x) zad = false) → ∃ f ∈ ids.foldl (zax F) o,x ∈ f.ids):=by
 induction ids with
 | nil=>intro o h;exact ⟨h,fun x hx=>by rcases hx with hx | ⟨hx,_⟩;exact hx;simp at hx⟩
 | cons a l ih =>
   intro o h
   rw [List.foldl_cons]
   cases e:eqV (F a) zad with
   | true =>
     have:zax F o a = o:=by simp [zax,e]
     rw [this]
     refine ⟨(ih o h).1,fun x hx=>(ih o h).2 x ?_⟩
     rcases hx with hx | ⟨hx,hz⟩
     · exact .inl hx
     · rcases List.mem_cons.1 hx with h' | h'
       · subst h';rw [e] at hz;cases hz
       · exact .inr ⟨h',hz⟩
   | false =>
     have e':zax F o a = putF (F a) a o:=by simp [zax,e]
     rw [e']
     have h1:∀ f ∈ putF (F a) a o,zfc f.v ∧ ∀ x ∈ f.ids,f.v = F x:=by
       intro f hf
       rcases zfh hf with hf | hf | ⟨g,hg,eg,hf⟩
       · exact h f hf
       · subst hf
         exact ⟨hF a,fun x hx=>by simp at hx;rw [hx]⟩
       · subst hf
         refine ⟨(h g hg).1,fun x hx=>?_⟩
         rcases List.mem_append.1 hx with hx | hx
         · exact (h g hg).2 x hx
         · simp at hx;subst hx;exact z0o (h g hg).1 (hF x) eg
     refine ⟨(ih _ h1).1,fun x hx=>(ih _ h1).2 x ?_⟩
     rcases hx with hx | ⟨hx,hz⟩
     · exact .inl (zmr hx)
     · rcases List.mem_cons.1 hx with h' | h'
       · subst h';exact .inl zrr
       · exact .inr ⟨h',hz⟩
theorem zrs {v:Nat → Int} {id x:ByteArray}:∀ {o:List Fr},(∃ f ∈ putF v id o,x ∈ f.ids) → x = id ∨ ∃ f ∈ o,x ∈ f.ids:=by
 rintro o ⟨f,hf,hm⟩
 rcases zfh hf with hf | hf | ⟨g,hg,_,hf⟩
 · exact .inr ⟨f,hf,hm⟩
 · subst hf;simp at hm;exact .inl hm
 · subst hf
   rcases List.mem_append.1 hm with hm | hm
   · exact .inr ⟨g,hg,hm⟩
   · simp at hm;exact .inl hm
theorem zhx (k:Kn):beyB (zah k) = beyB k:=by
 obtain ⟨f1,f2⟩:=zue (F:=beyB k) (zhy k) (zbd k) [] (fun f hf=>by simp at hf)
 funext id j
 have hr:rawF (zah k).l id j = if j < 8 then beyB k id j else rawF (zah k).l id j:=by
   by_cases hj:j < 8
   · rw [if_pos hj]
     have h0:=zka k id j
     have hle:rawF (zah k).l id j ≤ beyB k id j:=by
       rcases zfk (zah k).l id j with h | ⟨f,hf,hm,e⟩
       · omega
       · rw [e,(f1 f hf).2 id hm];omega
     cases ez:eqV (beyB k id) zad with
     | true =>
       have:=eqV_iff.1 ez j hj
       have h1:=zda (zah k).l id j
       unfold zad at this
       omega
     | false =>
       have hn:id ∈ zbd k:=by
         by_cases hn:id ∈ zbd k
         · exact hn
         · rw [zjm hn,zd4] at ez;cases ez
       obtain ⟨f,hf,hm⟩:=f2 id (.inr ⟨hn,ez⟩)
       have:=zgk (l:=(zah k).l) hf hm j
       rw [(f1 f hf).2 id hm] at this
       omega
   · rw [if_neg hj]
 show (if j < 8 then (if rawF (zah k).l id j ≤ (zah k).star j then 0 else rawF (zah k).l id j) else 0) = beyB k id j
 by_cases hj:j < 8
 · rw [if_pos hj] at hr ⊢
   rw [hr]
   show (if beyB k id j ≤ k.star j then 0 else beyB k id j) = beyB k id j
   unfold beyB
   rw [if_pos hj]
   split
   · split <;> rfl
   · rfl
 · rw [if_neg hj];exact (zhy k id j (by omega)).symm
theorem zrp {k k':Kn} (h:beyB k = beyB k'):(zah k).l = (zah k').l:=by
 show (zbd k).foldl (zax (beyB k)) [] = (zbd k').foldl (zax (beyB k')) []
 rw [zko,zko (beyB k'),← h]
 congr 1
 refine zps (zga (zjx _)) (zga (zjx _)) fun x=>?_
 rw [List.mem_filter,List.mem_filter]
 constructor
 · rintro ⟨_,h2⟩
   refine ⟨?_,h2⟩
   by_cases hn:x ∈ zbd k'
   · exact hn
   · rw [h,zjm hn,zd4] at h2;cases h2
 · rintro ⟨_,h2⟩
   refine ⟨?_,h2⟩
   by_cases hn:x ∈ zbd k
   · exact hn
   · rw [zjm hn,zd4] at h2;cases h2
theorem zrf (k:Kn) (id:ByteArray) (r c:Int):hasK k id r c = (hasV k.star r c || hasV (beyB k id) r c):=by
 unfold hasK
 rw [Bool.eq_iff_iff]
 simp only [Bool.or_eq_true,List.any_eq_true,zcx,Bool.and_eq_true,among_iff]
 unfold hasV cntV
 simp only [Bool.and_eq_true,decide_eq_true_eq]
 by_cases hr:1 ≤ r ∧ r ≤ 8
 · simp only [if_pos hr]
   have hj:(r - 1).toNat < 8:=by omega
   generalize (r - 1).toNat = j at *
   have hb:beyB k id j = if rawF k.l id j ≤ k.star j then 0 else rawF k.l id j:=by unfold beyB;rw [if_pos hj]
   rw [hb]
   constructor
   · rintro (h | ⟨f,hf,hm,h1,h2⟩)
     · exact .inl h
     · have:=zgk hf hm j
       by_cases hc:c ≤ k.star j
       · exact .inl ⟨h1,hc⟩
       · right
         rw [if_neg (by omega)]
         exact ⟨h1,by omega⟩
   · rintro (h | ⟨h1,h2⟩)
     · exact .inl h
     · right
       split at h2
       · omega
       · rcases zfk k.l id j with h | ⟨f,hf,hm,e⟩
         · omega
         · exact ⟨f,hf,hm,h1,by omega⟩
 · simp only [if_neg hr]
   constructor
   · rintro (h | ⟨f,_,_,h1,h2⟩)
     · exact .inl h
     · omega
   · rintro (h | h)
     · exact .inl h
     · omega
theorem zfu (k:Kn) (id:ByteArray) (r c:Int):hasK (zah k) id r c = hasK k id r c:=by
 rw [zrf,zrf k,zhx];rfl
theorem zwt (A B:Nat → Int) (j:Nat):maxV (maxV A B) B j = maxV A B j:=by
 unfold maxV
 repeat' split
 all_goals omega
theorem zjt (k:Kn) (id other:ByteArray) (r c yr yc:Int):hasK (zap k id r c) other yr yc = (hasK k other yr yc || ((id.toList == other.toList) && hasV (zaw zad r c) yr yc)):=by
 unfold hasK zap
 rw [List.any_append]
 simp [zcx,za5,Bool.or_assoc]
theorem zlf (k:Kn) (id:ByteArray) {r c:Int} (h1:1 ≤ r) (h2:r ≤ 8) (h3:1 ≤ c):hasK (zah (zap k id r c)) id r c = true:=by
 rw [zfu,zjt,zx5]
 simp [h1,h2,h3]
theorem zp7 (k:Kn) (id other:ByteArray) (r c yr yc:Int) (h:hasK k other yr yc = true):hasK (zah (zap k id r c)) other yr yc = true:=by
 rw [zfu,zjt,h];rfl
theorem zrl (k:Kn) (id other:ByteArray) (r c yr yc:Int) (h:hasK (zah (zap k id r c)) other yr yc = true):hasK (zah (ownK k id r c)) other yr yc = true:=by
 unfold ownK
 split
 · exact h
 · rename_i hc
   rw [zfu,zjt,Bool.or_eq_true] at h
   rw [zfu]
   have hc1:1 ≤ r ∧ r ≤ 8 ∧ 1 ≤ c ∧ k.star (r - 1).toNat = c - 1:=by omega
   rcases h with h | h
   · unfold hasK at *
     rw [Bool.or_eq_true] at *
     rcases h with h | h
     · exact .inl (z02 (zzg _ _ _) h)
     · exact .inr h
   · rw [Bool.and_eq_true] at h
     unfold hasK
     rw [Bool.or_eq_true]
     left
     have h2:=h.2
     show hasV (zaw k.star r c) yr yc = true
     unfold hasV cntV at *
     simp only [Bool.and_eq_true,decide_eq_true_eq] at *
     refine ⟨h2.1,?_⟩
     have h3:=h2.2
     split at h3
     · rename_i hr
       rw [if_pos hr]
       unfold zaw zad at *
       by_cases e:(yr - 1).toNat = (r - 1).toNat
       · rw [if_pos (by omega)] at h3
         have:(yr - 1).toNat = (r - 1).toNat ∧ 1 ≤ r ∧ r ≤ 8 ∧ k.star (yr - 1).toNat < c:=by
           refine ⟨e,by omega,by omega,?_⟩
           rw [e];omega
         rw [if_pos this];exact h3
       · rw [if_neg (by omega)] at h3;omega
     · omega
end Go.Proofs.YthnllikalobmeaaGreat
