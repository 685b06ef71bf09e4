/- Joined: StGood, StN, RefSt7, RefSt8. -/
import Derived.Test.YthnllikalobmeaaGreatK32
import Derived.Test.YthnllikalobmeaaGreatK27
namespace Go.Proofs.YthnllikalobmeaaGreat
set_option linter.unusedVariables false
set_option linter.unusedSimpArgs false
set_option maxRecDepth 100000
set_option maxHeartbeats 8000000
open Go.RowKit
theorem y33h {p:Prop} (h:p):Hid p:=Lib.hid h
theorem z1m {F:ByteArray → Nat → Int} (ids:List ByteArray):∀ {o:List Fr} {f:Fr},f ∈ ids.foldl (zaw F) o → (∃ x ∈ ids,f.v = F x) ∨ ∃ g ∈ o,f.v = g.v:=by
 induction ids with
 | nil=>intro o f h;exact .inr ⟨f,h,rfl⟩
 | cons a l ih =>
   intro o f h
   rw [List.foldl_cons] at h
   rcases ih h with ⟨x,hx,e⟩ | ⟨g,hg,e⟩
   · exact .inl ⟨x,by simp [hx],e⟩
   · unfold zaw at hg
     split at hg
     · exact .inr ⟨g,hg,e⟩
     · rcases ze3 hg with hg | hg | ⟨g',hg',_,hg⟩
       · exact .inr ⟨g,hg,e⟩
       · exact .inl ⟨a,by simp,by rw [e,hg]⟩
       · exact .inr ⟨g',hg',by rw [e,hg]⟩
theorem z1l {F:ByteArray → Nat → Int} (ids:List ByteArray):∀ {o:List Fr} {x:ByteArray},(∃ f ∈ ids.foldl (zaw F) o,x ∈ f.ids) → x ∈ ids ∨ ∃ f ∈ o,x ∈ f.ids:=by
 induction ids with
 | nil=>intro o x h;exact .inr h
 | cons a l ih =>
   intro o x h
   rw [List.foldl_cons] at h
   rcases ih h with h | h
   · exact .inl (by simp [h])
   · unfold zaw at h
     split at h
     · exact .inr h
     · rcases zq0 h with h | h
       · exact .inl (by simp [h])
       · exact .inr h
theorem zqy {k:Kn} {f:Fr} (h:f ∈ (zai k).l):∃ x,f.v = beyB k x:=by
 rcases z1m (za9 k) h with ⟨x,_,e⟩ | ⟨g,hg,_⟩
 · exact ⟨x,e⟩
 · simp at hg
theorem zqw {k:Kn} {f:Fr} {x:ByteArray} (h:f ∈ (zai k).l) (hx:x ∈ f.ids):∃ g ∈ k.l,x ∈ g.ids:=by
 rcases z1l (za9 k) ⟨f,h,hx⟩ with h | ⟨g,hg,_⟩
 · exact mem_names.1 h
 · simp at hg
theorem zs4 {k:Kn} {j:Nat} {n:Int} (h0:0 ≤ n) (h:∀ f ∈ k.l,f.v j ≤ n) (x:ByteArray):beyB k x j ≤ n:=by
 unfold beyB
 split
 · split
   · exact h0
   · rcases ze6 k.l x j with e | ⟨f,hf,_,e⟩
     · omega
     · rw [e];exact h f hf
 · exact h0
theorem mayFr_iff {nm:ByteArray → Bool} {f:Fr}:zfl nm f = true ↔ (∀ j,j < 8 → 0 ≤ f.v j ∧ f.v j ≤ 1000) ∧ ∀ x ∈ f.ids,nm x = true:=by
 unfold zfl
 rw [Bool.and_eq_true,mayV_iff,List.all_eq_true]
theorem zgm {nm:ByteArray → Bool} {k:Kn}:mayK nm k = true ↔ (zby k (zai k) = true ∧ ∀ j,j < 8 → 0 ≤ k.star j ∧ k.star j ≤ 1000) ∧ ∀ f ∈ k.l,zfl nm f = true:=by
 unfold mayK
 rw [Bool.and_eq_true,Bool.and_eq_true,mayV_iff,List.all_eq_true]
theorem zj9 {nm:ByteArray → Bool} {k:Kn} (hs:∀ j,j < 8 → 0 ≤ k.star j ∧ k.star j ≤ 1000) (hl:∀ f ∈ k.l,zfl nm f = true):mayK nm (zai k) = true:=by
 rw [zgm]
 refine ⟨⟨zm8 (zdv _) (zqx (zhk k)).symm,hs⟩,fun f hf=>?_⟩
 rw [mayFr_iff]
 obtain ⟨y,e⟩:=zqy hf
 refine ⟨fun j hj=>?_,fun x hx=>?_⟩
 · rw [e]
   exact ⟨zjn k y j,zs4 (by decide) (fun g hg=>((mayFr_iff.1 (hl g hg)).1 j hj).2) y⟩
 · obtain ⟨g,hg,hm⟩:=zqw hf hx
   exact (mayFr_iff.1 (hl g hg)).2 x hm
theorem zpc (r c:Int) (hc:0 ≤ c) (j:Nat):0 ≤ zav zad r c j ∧ zav zad r c j ≤ c:=by
 unfold zav zad
 split <;> omega
theorem zl0 {k:Kn} {id:ByteArray} {r c:Int} (h:mayK zaz k = true) (hid:zaz id = true) (hc:0 ≤ c ∧ c ≤ 1000):mayK zaz (zai (zap k id r c)) = true:=by
 rw [zgm] at h
 refine zj9 h.1.2 fun f hf=>?_
 rcases List.mem_append.1 hf with hf | hf
 · exact h.2 f hf
 · simp at hf;subst hf
   rw [mayFr_iff]
   exact ⟨fun j _=>⟨(zpc r c hc.1 j).1,Int.le_trans (zpc r c hc.1 j).2 hc.2⟩,fun x hx=>by simp at hx;rw [hx];exact hid⟩
theorem zv9 {k:Kn} {id:ByteArray} {r c:Int} (h:mayK zaz k = true) (hid:zaz id = true) (hc:0 ≤ c ∧ c ≤ 1000):mayK zaz (zai (ownK k id r c)) = true:=by
 unfold ownK
 split
 · exact zl0 h hid hc
 · rw [zgm] at h
   refine zj9 (fun j hj=>?_) h.2
   have:=h.1.2 j hj
   show 0 ≤ zav k.star r c j ∧ zav k.star r c j ≤ 1000
   unfold zav
   split <;> omega
theorem beyS_iff {k:Kn} {r n:Int}:beyS k r n = false ↔ cntV k.star r ≤ n ∧ ∀ f ∈ k.l,cntV f.v r ≤ n:=by
 unfold beyS
 rw [Bool.or_eq_false_iff,List.any_eq_false]
 simp only [decide_eq_true_eq,decide_eq_false_iff_not]
 constructor
 · rintro ⟨h1,h2⟩;exact ⟨by omega,fun f hf=>by have:=h2 f hf;omega⟩
 · rintro ⟨h1,h2⟩;exact ⟨by omega,fun f hf=>by have:=h2 f hf;omega⟩
theorem zdu {A:Nat → Int} {r n:Int} (h0:0 ≤ n) (h:1 ≤ r ∧ r ≤ 8 → A (r - 1).toNat ≤ n):cntV A r ≤ n:=by
 unfold cntV
 split
 · rename_i hr;exact h hr
 · exact h0
theorem zjr {A:Nat → Int} {r n:Int} (h:cntV A r ≤ n) (hr:1 ≤ r ∧ r ≤ 8):A (r - 1).toNat ≤ n:=by
 unfold cntV at h
 rwa [if_pos hr] at h
theorem zjm {k:Kn} {r n:Int} (h0:0 ≤ n) (h:beyS k r n = false):beyS (zai k) r n = false:=by
 rw [beyS_iff] at h ⊢
 refine ⟨h.1,fun f hf=>zdu h0 fun hr=>?_⟩
 obtain ⟨x,e⟩:=zqy hf
 rw [e]
 exact zs4 h0 (fun g hg=>zjr (h.2 g hg) hr) x
theorem zs3 {k:Kn} {r n m:Int} (h:beyS k r n = false) (hm:n ≤ m):beyS k r m = false:=by
 rw [beyS_iff] at h ⊢
 exact ⟨by omega,fun f hf=>by have:=h.2 f hf;omega⟩
theorem zlh {k:Kn} {id:ByteArray} {r r' c n:Int} (h0:0 ≤ n) (h:beyS k r n = false) (hc:r' = r → c ≤ n) (hc0:0 ≤ c) (hr':1 ≤ r' ∧ r' ≤ 8):beyS (zap k id r' c) r n = false:=by
 rw [beyS_iff] at h ⊢
 refine ⟨h.1,fun f hf=>?_⟩
 rcases List.mem_append.1 hf with hf | hf
 · exact h.2 f hf
 · simp at hf;subst hf
   refine zdu h0 fun hr=>?_
   show zav zad r' c (r - 1).toNat ≤ n
   unfold zav zad
   split
   · rename_i h2
     exact hc (by omega)
   · exact h0
theorem zvh {k:Kn} {id:ByteArray} {r n:Int} (h0:0 ≤ n) (h:beyS k r n = false) (hr:1 ≤ r ∧ r ≤ 8):beyS (ownK k id r (n + 1)) r (n + 1) = false:=by
 unfold ownK
 split
 · exact zlh (by omega) (zs3 h (by omega)) (fun _=>Int.le_refl _) (by omega) hr
 · rw [beyS_iff] at h ⊢
   refine ⟨zdu (by omega) fun hr=>?_,fun f hf=>by have:=h.2 f hf;omega⟩
   have:=zjr h.1 hr
   show zav k.star r (n + 1) (r - 1).toNat ≤ n + 1
   unfold zav
   split <;> omega
theorem zlt {k:Kn} {id:ByteArray} {r c n:Int} (h:hasK k id r c = true) (hb:beyS k r n = false):c ≤ n:=by
 rw [beyS_iff] at hb
 unfold hasK at h
 rw [Bool.or_eq_true] at h
 rcases h with h | h
 · unfold hasV at h
   rw [Bool.and_eq_true,decide_eq_true_eq,decide_eq_true_eq] at h
   omega
 · rw [List.any_eq_true] at h
   obtain ⟨f,hf,h⟩:=h
   unfold zfe hasV at h
   rw [Bool.and_eq_true,Bool.and_eq_true,decide_eq_true_eq,decide_eq_true_eq] at h
   have:=hb.2 f hf
   omega
structure Stood (s:St) (want:Bool) (i:Itm):Prop where
 has:hasT s.f i = want
 knows:hasK s.k i.id i.r i.c = true
 stamp:i.st ≤ s.clock
structure Good (s:St):Prop where
 f:Pr.mayB s.f = true
 st:zbm s.store = true
 ou:zbm s.out = true
 k:mayK zaz s.k = true
 r:1 ≤ s.r ∧ s.r ≤ 8
 n:s.store.length + s.out.length ≤ 40
 c:0 ≤ s.count ∧ s.count ≤ 1000
 t:0 ≤ s.clock ∧ s.clock ≤ 1000000
 e:0 ≤ s.epoch ∧ s.epoch ≤ 1000000
 tw:∀ i ∈ s.out,∀ j ∈ s.store,j.id ≠ i.id
 si:∀ i ∈ s.store,Stood s true i
 so:∀ i ∈ s.out,Stood s false i
 b:beyS s.k s.r s.count = false
theorem inB_iff {n a b:Int}:inB n a b = true ↔ a ≤ n ∧ n ≤ b:=by
 unfold inB;rw [Bool.and_eq_true,decide_eq_true_eq,decide_eq_true_eq]
theorem zsl {s:St} {l:List Itm} {want:Bool}:zkp s l want = true ↔ ∀ i ∈ l,Stood s want i:=by
 unfold zkp
 rw [List.all_eq_true]
 constructor
 · intro h i hi
   have:=h i hi
   unfold zo7 at this
   rw [Bool.and_eq_true,Bool.and_eq_true,beq_iff_eq,decide_eq_true_eq] at this
   exact ⟨this.1,this.2.1,this.2.2⟩
 · intro h i hi
   obtain ⟨h1,h2,h3⟩:=h i hi
   unfold zo7
   rw [Bool.and_eq_true,Bool.and_eq_true,beq_iff_eq,decide_eq_true_eq]
   exact ⟨h1,h2,h3⟩
theorem get_is {l:List Itm} {id:ByteArray}:(getI l id).2 = true ↔ ∃ i ∈ l,i.id = id:=by
 rcases zcq l id with ⟨i,hi,e,h⟩ | ⟨h,h'⟩
 · rw [h];exact ⟨fun _=>⟨i,hi,e⟩,fun _=>rfl⟩
 · rw [h'];exact ⟨fun q=>by simp at q,fun ⟨i,hi,e⟩=>absurd e (h i hi)⟩
theorem mayS_iff {s:St}:mayS s = true ↔ Good s:=by
 unfold mayS zxq numS zu3
 simp only [Bool.and_eq_true,inB_iff,zsl,decide_eq_true_eq,List.all_eq_true,Bool.not_eq_true']
 constructor
 · rintro ⟨⟨h1,h2,h3,h4,h5,h6⟩,⟨h7,h8,h9⟩,h10,h11,h12,h13⟩
   refine ⟨h1,h2,h3,h4,h5,h6,h7,h8,h9,fun i hi j hj e=>?_,h11,h12,h13⟩
   have:=h10 i hi
   rw [get_is.2 ⟨j,hj,e⟩] at this;cases this
 · rintro ⟨h1,h2,h3,h4,h5,h6,h7,h8,h9,h10,h11,h12,h13⟩
   refine ⟨⟨h1,h2,h3,h4,h5,h6⟩,⟨h7,h8,h9⟩,fun i hi=>?_,h11,h12,h13⟩
   cases q:(getI s.store i.id).2 with
   | false=>rfl
   | true=>obtain ⟨j,hj,e⟩:=get_is.1 q;exact absurd e (h10 i hi j hj)
theorem Good.rs {s:St} (h:Good s):zao s.store:=(mayLB_iff.1 h.st).2
theorem Good.ro {s:St} (h:Good s):zao s.out:=(mayLB_iff.1 h.ou).2
theorem zfq {s:St} (h:Good s) (id:ByteArray):(∃ i ∈ s.store,i.id = id ∧ zag s id = (i,true)) ∨ (∃ i ∈ s.out,i.id = id ∧ zag s id = (i,true)) ∨ ((∀ i ∈ s.store,i.id ≠ id) ∧ (∀ i ∈ s.out,i.id ≠ id) ∧ zag s id = (Itm.zero,false)):=by
 unfold zag
 rw [znz s.out id h.rs h.ro]
 rcases zcq s.out id with ⟨i,hi,e,hg⟩ | ⟨hn,hg⟩
 · have hs:getI s.store id = (Itm.zero,false):=zc1 fun j hj e'=>h.tw i hi j hj (e'.trans e.symm)
   rw [hg,hs]
   exact .inr (.inl ⟨i,hi,e,by simp⟩)
 · rw [hg]
   rcases zcq s.store id with ⟨j,hj,e,hg'⟩ | ⟨hn',hg'⟩
   · rw [hg'];exact .inl ⟨j,hj,e,by simp⟩
   · rw [hg'];exact .inr (.inr ⟨hn',hn,by simp⟩)
theorem zko {s:St} (h:Good s) {id:ByteArray} (hs:(zag s id).2 = true):mayT (zag s id).1 = true ∧ (zag s id).1.id = id:=by
 rcases zfq h id with ⟨i,hi,e,hq⟩ | ⟨i,hi,e,hq⟩ | ⟨_,_,hq⟩
 · rw [hq];exact ⟨(mayLB_iff.1 h.st).1 i hi,e⟩
 · rw [hq];exact ⟨(mayLB_iff.1 h.ou).1 i hi,e⟩
 · rw [hq] at hs;cases hs
theorem zqh {l:List Itm} {id:ByteArray} (h:∃ i ∈ l,i.id = id):(l.filter (neB id)).length + 1 ≤ l.length:=by
 obtain ⟨i,hi,e⟩:=h
 have:(l.filter (neB id)).length < l.length:=by
   rw [List.length_filter_lt_length_iff_exists]
   exact ⟨i,hi,by unfold neB;rw [tl_eq.2 e];simp⟩
 omega
theorem zew (l:List Itm) (id:ByteArray):(l.filter (neB id)).length ≤ l.length:=List.length_filter_le _ _
theorem mayT_iff {i:Itm}:mayT i = true ↔ zaz i.id = true ∧ txtB i.kd = true ∧ (1 ≤ i.r ∧ i.r ≤ 8) ∧ (1 ≤ i.c ∧ i.c ≤ 1000) ∧ (1 ≤ i.st ∧ i.st ≤ 1000000) ∧ (inB i.num (-1000000) 1000000 = true) ∧ mayB i.x i.y = true:=by
 unfold mayT mayI verB
 simp only [Bool.and_eq_true,inB_iff]
 constructor
 · rintro ⟨h1,h2,⟨h3,h4⟩,h5,h6,h7⟩;exact ⟨h1,h2,h3,h4,h5,h6,h7⟩
 · rintro ⟨h1,h2,h3,h4,h5,h6,h7⟩;exact ⟨h1,h2,⟨h3,h4⟩,h5,h6,h7⟩
theorem znx {s:St} (h:Good s) (hf:zbb s = false):s.count + 1 ≤ 1000 ∧ s.clock + 1 ≤ 1000000:=by
 unfold zbb at hf
 rw [Bool.or_eq_false_iff,decide_eq_false_iff_not,decide_eq_false_iff_not] at hf
 have:=h.c
 have:=h.t
 omega
theorem zhw {s:St} {x:Itm} (h:Good s) (hx:mayT (zak s x) = true) (hf:zbb s = false) (hroom:(zag s x.id).2 = true ∨ s.store.length + s.out.length < 40):Good (zay s x):=by
 obtain ⟨hc1,ht1⟩:=znx h hf
 have hc:=h.c
 have ht:=h.t
 have hid:=(mayT_iff.1 hx).1
 have kk:∀ i:Itm,hasK s.k i.id i.r i.c = true → hasK (zai (ownK s.k x.id s.r (s.count + 1))) i.id i.r i.c = true:=fun i hi=>zqu _ _ _ _ _ _ _ (zpd _ _ _ _ _ _ _ hi)
 have kx:hasK (zai (ownK s.k x.id s.r (s.count + 1))) x.id s.r (s.count + 1) = true:=zqu _ _ _ _ _ _ _ (zkt _ _ h.r.1 h.r.2 (by omega))
 have sx:∀ w,hasT s.f x = w → Stood (zay s x) w (zak s x):=fun w hw=>⟨hw,kx,Int.le_refl _⟩
 have so:∀ w i,Stood s w i → Stood (zay s x) w i:=fun w i hi=>⟨hi.has,kk i hi.knows,by have:=hi.stamp;show i.st ≤ s.clock + 1;omega⟩
 have ms:∀ i ∈ (zay s x).store,(i ∈ s.store ∧ i.id ≠ x.id) ∨ (i = zak s x ∧ hasT s.f x = true):=fun i hi=>by
   change i ∈ zaq (preS s x) (zak s x) at hi
   unfold zaq at hi
   split at hi
   · rename_i hh
     rcases mem_put.1 hi with e | ⟨e,_⟩
     · exact .inr ⟨e,hh⟩
     · exact .inl (mem_drop.1 e)
   · exact .inl (mem_drop.1 hi)
 have mo:∀ i ∈ (zay s x).out,(i ∈ s.out ∧ i.id ≠ x.id) ∨ (i = zak s x ∧ hasT s.f x = false):=fun i hi=>by
   change i ∈ laidOut (preS s x) (zak s x) true at hi
   unfold laidOut at hi
   split at hi
   · exact .inl (mem_drop.1 hi)
   · rename_i hh
     rw [if_pos rfl] at hi
     rcases mem_put.1 hi with e | ⟨e,_⟩
     · exact .inr ⟨e,Bool.eq_false_iff.2 hh⟩
     · exact .inl (mem_drop.1 e)
 refine ⟨h.f,?_,?_,zv9 h.k hid (by omega),h.r,?_,by show 0 ≤ s.count + 1 ∧ s.count + 1 ≤ 1000;omega,by show 0 ≤ s.clock + 1 ∧ s.clock + 1 ≤ 1000000;omega,h.e,fun i hi j hj=>?_,fun i hi=>?_,fun i hi=>?_,?_⟩
 · show zbm (zaq (preS s x) (zak s x)) = true
   unfold zaq
   split
   · exact zqs (zeq h.st) hx
   · exact zeq h.st
 · show zbm (laidOut (preS s x) (zak s x) true) = true
   unfold laidOut
   split
   · exact zeq h.ou
   · rw [if_pos rfl];exact zqs (zeq h.ou) hx
 · show (zaq (preS s x) (zak s x)).length + (laidOut (preS s x) (zak s x) true).length ≤ 40
   have hn:=h.n
   have f1:=zew s.store x.id
   have f2:=zew s.out x.id
   have p1:=zcw (s.store.filter (neB x.id)) (zak s x)
   have p2:=zcw (s.out.filter (neB x.id)) (zak s x)
   have hd:(s.store.filter (neB x.id)).length + (s.out.filter (neB x.id)).length + 1 ≤ 40:=by
     rcases zfq h x.id with ⟨i,hi,e,hq⟩ | ⟨i,hi,e,hq⟩ | ⟨_,_,hq⟩
     · have:=zqh ⟨i,hi,e⟩;omega
     · have:=zqh ⟨i,hi,e⟩;omega
     · rcases hroom with hr | hr
       · rw [hq] at hr;cases hr
       · omega
   unfold zaq laidOut
   simp only [if_pos]
   cases hasT (preS s x).f (zak s x) with
   | true=>simp only [if_true];show (putI (s.store.filter (neB x.id)) (zak s x)).length + (s.out.filter (neB x.id)).length ≤ 40;omega
   | false=>simp only [Bool.false_eq_true,if_false];show (s.store.filter (neB x.id)).length + (putI (s.out.filter (neB x.id)) (zak s x)).length ≤ 40;omega
 · rcases mo i hi with ⟨a1,a2⟩ | ⟨a1,a2⟩
   · rcases ms j hj with ⟨b1,b2⟩ | ⟨b1,b2⟩
     · exact h.tw i a1 j b1
     · rw [b1];exact fun e=>a2 e.symm
   · rcases ms j hj with ⟨b1,b2⟩ | ⟨b1,b2⟩
     · rw [a1];exact b2
     · rw [a2] at b2;cases b2
 · rcases ms i hi with ⟨a1,_⟩ | ⟨a1,a2⟩
   · exact so _ i (h.si i a1)
   · rw [a1];exact sx _ a2
 · rcases mo i hi with ⟨a1,_⟩ | ⟨a1,a2⟩
   · exact so _ i (h.so i a1)
   · rw [a1];exact sx _ a2
 · exact zjm (by show 0 ≤ s.count + 1;omega) (zvh hc.1 h.b h.r)
def LPF (w:World) (B:Nat) (p:Pr) (v:Value):Prop:=Lies 5 pc (fun b=>B ≤ b ∧ b < w.heap.size) w p v
theorem LPF.lp {w:World} {B:Nat} {p:Pr} {v:Value} (h:LPF w B p v):LP w p v:=h.mono (fun _ _ _=>rfl) fun _ h=>h.2
theorem LPF.later {w w':World} {B:Nat} {p:Pr} {v:Value} (h:LPF w B p v) (hb:Below w.heap.size w w'):LPF w' B p v :=
 h.mono (fun b o hS=>hb.cell (p:=⟨b,o,none⟩) hS.2) fun _ hS=>⟨hS.1,Nat.lt_of_lt_of_le hS.2 hb.size⟩
theorem LPF.mono' {w:World} {B B':Nat} {p:Pr} {v:Value} (h:LPF w B p v) (hb:B' ≤ B):LPF w B' p v:=h.mono (fun _ _ _=>rfl) fun _ h=>⟨Nat.le_trans hb h.1,h.2⟩
theorem LPF.sets {w:World} {B b:Nat} {p:Pr} {v:Value} (h:LPF w B p v) (hb:b < B) (vs:List Value):LPF (w.setCells b 0 vs) B p v :=
 h.mono (fun b' o hS=>World.cell?_setCells_out b vs 0 w ⟨b',o,none⟩ (fun e _=>by have:=hS.1;simp only at e;omega)) fun _ hS=>⟨hS.1,Nat.lt_of_lt_of_le hS.2 (zab (B:=b) (Nat.le_refl _) vs 0 (Below.refl b w)).size⟩
structure StN (w:World) (B:Nat) (p:Pr) (pv:Value) (l:List Itm) (sv:Value) (m:List Itm) (ov:Value) (k:List Fr) (kv:Value) (U:St) (fv' sv' ov' kv':Value):Prop where
 f:(U.f = p ∧ fv' = pv) ∨ LPF w B U.f fv'
 st:(U.store = l ∧ sv' = sv) ∨ RowF w B U.store sv'
 ou:(U.out = m ∧ ov' = ov) ∨ RowF w B U.out ov'
 k:(U.k.l = k ∧ kv' = kv) ∨ FrFresh w B U.k.l kv'
section
variable {w:World} {B:Nat} {p:Pr} {pv:Value} {l:List Itm} {sv:Value} {m:List Itm} {ov:Value} {k:List Fr} {kv:Value} {U:St} {fv' sv' ov' kv':Value}
theorem StN.later {w':World} (h:StN w B p pv l sv m ov k kv U fv' sv' ov' kv') (hb:Below w.heap.size w w'):StN w' B p pv l sv m ov k kv U fv' sv' ov' kv' :=
 ⟨h.f.imp id fun h=>h.later hb,h.st.imp id fun h=>h.later hb,h.ou.imp id fun h=>h.later hb,h.k.imp id fun h=>h.stays hb⟩
theorem StN.mono {B':Nat} (h:StN w B p pv l sv m ov k kv U fv' sv' ov' kv') (hb:B' ≤ B):StN w B' p pv l sv m ov k kv U fv' sv' ov' kv' :=
 ⟨h.f.imp id fun h=>h.mono' hb,h.st.imp id fun h=>h.mono hb,h.ou.imp id fun h=>h.mono hb,h.k.imp id fun h=>h.mono hb⟩
theorem StN.sets {b:Nat} (h:StN w B p pv l sv m ov k kv U fv' sv' ov' kv') (hb:b < B) (vs:List Value):StN (w.setCells b 0 vs) B p pv l sv m ov k kv U fv' sv' ov' kv' :=
 ⟨h.f.imp id fun h=>h.sets hb vs,h.st.imp id fun h=>h.sets hb vs 0,h.ou.imp id fun h=>h.sets hb vs 0,h.k.imp id fun h=>h.sets hb vs 0⟩
theorem StN.lies {w0:World} (h:StN w B p pv l sv m ov k kv U fv' sv' ov' kv') (hp:LP w0 p pv) (hl:Row 8 ic w0 l sv) (hm:Row 8 ic w0 m ov) (hk:FrW w0 k kv) (hb:Below w0.heap.size w0 w):StW w U fv' sv' ov' kv':=by
 obtain ⟨h1,h2,h3,h4⟩:=h
 refine ⟨?_,?_,?_,?_⟩
 · rcases h1 with ⟨e,rfl⟩ | h1
   · rw [e];exact hp.later hb (Nat.le_refl _)
   · exact h1.lp
 · rcases h2 with ⟨e,rfl⟩ | h2
   · rw [e];exact hl.later hb
   · exact h2.row
 · rcases h3 with ⟨e,rfl⟩ | h3
   · rw [e];exact hm.later hb
   · exact h3.row
 · rcases h4 with ⟨e,rfl⟩ | h4
   · rw [e];exact hk.later hb (Nat.le_refl _)
   · exact h4.fr
theorem StX.n {s:St} {fv:Value} (h:StX w B s U sv ov kv sv' ov' kv'):StN w B s.f fv s.store sv s.out ov s.k.l kv U fv sv' ov' kv':=by
 rcases h with ⟨rfl,rfl,rfl,rfl⟩ | ⟨e,h1,h2,h3⟩
 · exact ⟨.inl ⟨rfl,rfl⟩,.inl ⟨rfl,rfl⟩,.inl ⟨rfl,rfl⟩,.inl ⟨rfl,rfl⟩⟩
 · exact ⟨.inl ⟨e,rfl⟩,.inr h1,.inr h2,.inr h3⟩
end
def Told (c:Int → Value) (p:Pr) (pv:Value) (s:St) (sv ov kv:Value) (U:St) (E:Int) (w:World) (e:Ending) (w':World):Prop :=
 ∃ fv' sv' ov' kv',e = .returned (.tuple #[stV U fv' sv' ov' kv',c E]) ∧ StN w' w.heap.size p pv s.store sv s.out ov s.k.l kv U fv' sv' ov' kv' ∧ Below w.heap.size w w'
def zxm (c:Int → Value) (p:Pr) (pv:Value) (q:Pr) (qv:Value) (s:St) (sv ov kv:Value) (U:St) (E:Int) (w:World) (e:Ending) (w':World):Prop :=
 Told c p pv s sv ov kv U E w e w' ∨ Told c q qv s sv ov kv U E w e w'
def numI (n:Int):Value:=.int .i64 n
end Go.Proofs.YthnllikalobmeaaGreat
namespace Go.Proofs.YthnllikalobmeaaGreat
set_option linter.unusedVariables false
set_option linter.unusedSimpArgs false
set_option maxRecDepth 100000
set_option maxHeartbeats 8000000
open Go.RowKit
abbrev itS (id kd:ByteArray) (num:Int) (px py:Nat):Itm:=⟨id,1,1,1,kd,num,px,py,false⟩
theorem far8 {X:World} {b' b:Nat} {c:Array Value} {T:TypeId} (h:Own X b' c T) (hne:b' ≠ b) (c0 c1 c2 c3 c4 c5 c6 c7:Value) :
   Own (((((((((X.setCell ⟨b,0,none⟩ c0).setCell ⟨b,1,none⟩ c1).setCell ⟨b,2,none⟩ c2).setCell ⟨b,3,none⟩ c3).setCell ⟨b,4,none⟩ c4).setCell ⟨b,5,none⟩ c5).setCell ⟨b,6,none⟩ c6).setCell ⟨b,7,none⟩ c7)) b' c T :=
 (((((((h.setFar _ _ hne).setFar _ _ hne).setFar _ _ hne).setFar _ _ hne).setFar _ _ hne).setFar _ _ hne).setFar _ _ hne).setFar _ _ hne
theorem zf5 (id kd:ByteArray) (num:Int) (px py:Nat) (w:World) (hid:id.size ≤ maxLen) (hkd:kd.size ≤ maxLen) :
   Calls Tryz.prog 100 #[.string id,.string kd,.int .i64 num,.complex .f64 px py] w fun e w'=>e = .returned (.tuple #[iV (itS id kd num px py),.bool (mayT (itS id kd num px py))]) ∧ Below w.heap.size w w':=by
 have OT:=y33h ((Own.new w #[.string ⟨#[]⟩,.int .i64 0,.int .i64 0,.int .i64 0,.string ⟨#[]⟩,.int .i64 0,.complex .f64 0 0,.bool false] 69).alloc (.cells (iA (itS id kd num px py)) 69))
 have OX:=y33h (Own.newAt (w.alloc (.cells #[.string ⟨#[]⟩,.int .i64 0,.int .i64 0,.int .i64 0,.string ⟨#[]⟩,.int .i64 0,.complex .f64 0 0,.bool false] 69)) (iA (itS id kd num px py)) 69 (b:=w.heap.size + 1) (by simp))
 have BEL:=y33h (((Below.refl w.heap.size w).alloc (Nat.le_refl _) (.cells #[.string ⟨#[]⟩,.int .i64 0,.int .i64 0,.int .i64 0,.string ⟨#[]⟩,.int .i64 0,.complex .f64 0 0,.bool false] 69)).alloc (by simp) (.cells (iA (itS id kd num px py)) 69))
 have C:=fun w'=>y33h (zmu (itS id kd num px py) w' hid hkd)
 have hne:=y33h (show w.heap.size + 1 ≠ w.heap.size by omega)
 generalize mayT (itS id kd num px py) = m at *
 go_enter Tryz.func100,Tryz.ntmps100
 go_wp2_with fail
 replace OT:=y33h OT.out.drew
 replace OX:=y33h OX.out.drew
 replace BEL:=y33h BEL.out.drew
 go_region_held3 (fun w'=>∀ o,w'.cell? ⟨w.heap.size + 1,o,none⟩ = (iA (itS id kd num px py))[o]?) (first | with_reducible exact OX.out.cell | with_reducible exact (far8 OX.out hne.out _ _ _ _ _ _ _ _).cell | fail) (first
     | (go_simp;go_at_call 87;refine (C _).out.mono ?_;rintro e w3 ⟨rfl,hb⟩;replace OT:=y33h (OT.out.later hb);replace OX:=y33h (OX.out.later hb);replace BEL:=y33h (BEL.out.trans (hb.mono BEL.out.size));clear hb;have l1:=OT.out.cell;have f1:=OT.out.free;have z1:=OT.out.lt)
     | fail)
 have key:=And.intro (zbj OT.out (.string id) (.int .i64 1) (.int .i64 1) (.int .i64 1) (.string kd) (.int .i64 num) (.complex .f64 px py) (.bool false)) (za5 (b:=w.heap.size) BEL.out (Nat.le_refl _) (.string id) (.int .i64 1) (.int .i64 1) (.int .i64 1) (.string kd) (.int .i64 num) (.complex .f64 px py) (.bool false))
 clear OT OX BEL l1 f1 z1
 go_wp2_with fail
 unfold st8 at key
 revert key
 generalize World.setCell (World.setCell (World.setCell (World.setCell (World.setCell (World.setCell (World.setCell (World.setCell _ _ _) _ _) _ _) _ _) _ _) _ _) _ _) _ _ = WW
 rintro ⟨of,bf⟩
 exact zae (by rfl) (by rfl) (by rfl) (l:=ic (itS id kd num px py)) of.range Tryz.underlying69 (by rfl) (by kernel_rfl) rfl ⟨rfl,bf⟩
def updE (s:St) (x:Itm):Int:=if mayT x = true then (if (zag s x.id).2 = true ∧ (zag s x.id).1.d = false then (if zbb s = true then 5 else 0) else 2) else 1
def updS (s:St) (x:Itm):St:=if updE s x = 0 then zay s x else s
theorem z0p {s:St} {x:Itm} (h:mayT x = false):updE s x = 1 ∧ updS s x = s:=by
 have e:updE s x = 1:=by unfold updE;rw [if_neg (by simp [h])]
 exact ⟨e,by unfold updS;rw [e,if_neg (by decide)]⟩
theorem z0q {s:St} {x:Itm} (h:mayT x = true) (h2:¬((zag s x.id).2 = true ∧ (zag s x.id).1.d = false)):updE s x = 2 ∧ updS s x = s:=by
 have e:updE s x = 2:=by unfold updE;rw [if_pos h,if_neg h2]
 exact ⟨e,by unfold updS;rw [e,if_neg (by decide)]⟩
theorem z0r {s:St} {x:Itm} (h:mayT x = true) (h2:(zag s x.id).2 = true ∧ (zag s x.id).1.d = false) (h3:zbb s = true):updE s x = 5 ∧ updS s x = s:=by
 have e:updE s x = 5:=by unfold updE;rw [if_pos h,if_pos h2,if_pos h3]
 exact ⟨e,by unfold updS;rw [e,if_neg (by decide)]⟩
theorem z0s {s:St} {x:Itm} (h:mayT x = true) (h2:(zag s x.id).2 = true ∧ (zag s x.id).1.d = false) (h3:zbb s = false):updE s x = 0 ∧ updS s x = zay s x:=by
 have e:updE s x = 0:=by unfold updE;rw [if_pos h,if_pos h2,if_neg (by simp [h3])]
 exact ⟨e,by unfold updS;rw [e,if_pos rfl]⟩
theorem zkj (s:St) (fv sv ov kv:Value) (id kd:ByteArray) (num:Int) (px py:Nat) (w:World) (hS:StW w s fv sv ov kv) (hid:id.size ≤ maxLen) (hkd:kd.size ≤ maxLen) (hf:s.f.size ≤ 1000) (h1:s.store.length ≤ 1000) (h2:s.out.length ≤ 1000)
   (hk1:(zaf (zap s.k id s.r (s.count + 1)).l).length ≤ 10000) (hk2:s.k.l.length ≤ 10000) (hk3:(zaf s.k.l).length ≤ 10000) (hc:0 ≤ s.count ∧ s.count ≤ 1000) (ht:0 ≤ s.clock ∧ s.clock ≤ 1000000) :
   Calls Tryz.prog 52 #[stV s fv sv ov kv,.string id,.string kd,.int .i64 num,.complex .f64 px py] w fun e w' =>
     ∃ sv' ov' kv',e = .returned (.tuple #[stV (updS s (itS id kd num px py)) fv sv' ov' kv',.int .i64 (updE s (itS id kd num px py))]) ∧ StW w' (updS s (itS id kd num px py)) fv sv' ov' kv' ∧ StX w' w.heap.size s (updS s (itS id kd num px py)) sv ov kv sv' ov' kv' ∧ Below w.heap.size w w':=by
 have OA:=y33h ((Own.new w (stA s fv sv ov kv) 43).alloc (.cells stZ.toArray 43))
 have OT:=y33h (Own.newAt (w.alloc (.cells (stA s fv sv ov kv) 43)) stZ.toArray 43 (b:=w.heap.size + 1) (by simp))
 have BEL:=y33h (((Below.refl w.heap.size w).alloc (Nat.le_refl _) (.cells (stA s fv sv ov kv) 43)).alloc (by simp) (.cells stZ.toArray 43))
 have HW:=y33h hS
 have hfv:fv.oneCell' = true:=zar hS.lf
 have hsv:sv.oneCell' = true:=by obtain ⟨_,_,_,_,e,_⟩:=hS.ls;rw [e];rfl
 have hov:ov.oneCell' = true:=by obtain ⟨_,_,_,_,e,_⟩:=hS.lo;rw [e];rfl
 have hkv:kv.oneCell' = true:=by obtain ⟨_,_,e⟩:=hS.lk.val;rw [e];rfl
 unfold Value.oneCell' at hfv hsv hov hkv
 clear hS
 have CS:=fun w'=>y33h (zf5 id kd num px py w' hid hkd)
 have CD:=fun w' (hb:Below w.heap.size w w')=>y33h (zds s fv sv ov kv id w' (HW.out.later hb) h1 h2)
 have CM:=fun w' (hb:Below w.heap.size w w')=>y33h (zeg s fv sv ov kv (itS id kd num px py) w' (HW.out.later hb) ⟨hid,hkd⟩ hf h1 h2 hk1 hk2 hk3 hc ht)
 have EA:=y33h (z0p (s:=s) (x:=(itS id kd num px py)))
 have EB:=y33h (z0q (s:=s) (x:=(itS id kd num px py)))
 have EC:=y33h (z0r (s:=s) (x:=(itS id kd num px py)))
 have ED:=y33h (z0s (s:=s) (x:=(itS id kd num px py)))
 clear hf h1 h2 hk1 hk2 hk3 hc ht
 have hXid:((itS id kd num px py)).id = id:=rfl
 rw [hXid] at EB EC ED
 generalize mayT (itS id kd num px py) = m at EA EB EC ED CS
 generalize hhd:(zag s id).1 = hd at EB EC ED CD
 generalize hok:(zag s id).2 = ok at EB EC ED CD
 clear hhd hok hXid
 generalize updE s (itS id kd num px py) = ue at *
 generalize updS s (itS id kd num px py) = us at *
 cases m with
 | false =>
   have E:=y33h (EA.out rfl)
   clear EA EB EC ED
   rw [E.out.1,E.out.2]
   clear E
   all_goals
     go_enter Tryz.func52,Tryz.ntmps52
     go_wp2_with (first | (go_at_call 100;go_loud (refine (CS _).out.mono ?_;rintro e w1 ⟨rfl,hb⟩;have OX:=y33h (Own.new w1 (iA (itS id kd num px py)) 69);replace OA:=y33h ((OA.out.later hb).alloc (.cells (iA (itS id kd num px py)) 69));replace OT:=y33h ((OT.out.later hb).alloc (.cells (iA (itS id kd num px py)) 69));replace BEL:=y33h ((BEL.out.trans (hb.mono BEL.out.size)).alloc ((BEL.out.trans (hb.mono BEL.out.size)).size) (.cells (iA (itS id kd num px py)) 69));clear hb)) | (refine wpList_load_mid (by rfl) 43 _ (by rfl) w.heap.size 0 (by rfl) (stA s fv sv ov kv).toList _ OA.out.range Tryz.underlying43 (by rfl) (by kernel_rfl) ?_) | (refine wpList_store_mid (by rfl) 43 _ _ (by rfl) (w.heap.size + 1) 0 (stA s fv sv ov kv) (by rfl) (by rfl) (OT.out.there (by rfl)) (by kernel_rfl) (by simp [Value.oneCell',hfv,hsv,hov,hkv]) ?_) | fail)
     have HK:=y33h (And.intro (OT.out.sets (stA s fv sv ov kv).toList (by rfl)) (zab (b:=w.heap.size + 1) (by omega) (stA s fv sv ov kv).toList 0 BEL.out))
     clear OX OA OT BEL
     revert HK
     generalize World.setCells _ _ _ _ = WW
     intro HK
     exact zae (by rfl) (by rfl) (by rfl) HK.out.1.range Tryz.underlying43 (by rfl) (by kernel_rfl) rfl ⟨sv,ov,kv,rfl,HW.out.later HK.out.2,.refl _ _ _ _ _ _,HK.out.2⟩
 | true =>
   clear EA
   have E:=y33h (EB.out rfl)
   clear EB
   by_cases hw:ok = true ∧ hd.d = false
   · replace EC:=y33h (EC.out rfl hw)
     replace ED:=y33h (ED.out rfl hw)
     clear E
     obtain ⟨rfl,hd0⟩:=hw
     have CM2:=fun w' (hb:Below w.heap.size w w')=>y33h (show Calls Tryz.prog 101 #[stV s fv sv ov kv,iV (itS id kd num px py)] w' (fun e w''=>∃ sv' ov' kv',e = .returned (.tuple #[stV us fv sv' ov' kv',.int .i64 ue]) ∧ StX w'' w'.heap.size s us sv ov kv sv' ov' kv' ∧ Below w'.heap.size w' w'') from (CM w' hb).out.mono fun e w'' h=>by
       rcases h with ⟨hf,he,hb2⟩ | ⟨hf,sv',ov',kv',he,hst,hr,hb2⟩
       · rw [(EC.out hf).1,(EC.out hf).2]
         exact ⟨sv,ov,kv,he,.refl _ _ _ _ _ _,hb2⟩
       · rw [(ED.out hf).1,(ED.out hf).2]
         exact ⟨sv',ov',kv',he,.inr ⟨rfl,hr⟩,hb2⟩)
     clear CM EC ED
     obtain ⟨x1,x2,x3,x4,x5,x6,x7,x8,xd⟩:=hd
     change xd = false at hd0
     subst hd0
     go_enter Tryz.func52,Tryz.ntmps52
     go_wp2_with (first | (go_at_call 100;go_loud (refine (CS _).out.mono ?_;rintro e w1 ⟨rfl,hb⟩;have OX:=y33h (Own.new w1 (iA (itS id kd num px py)) 69);replace OA:=y33h ((OA.out.later hb).alloc (.cells (iA (itS id kd num px py)) 69));replace OT:=y33h ((OT.out.later hb).alloc (.cells (iA (itS id kd num px py)) 69));replace BEL:=y33h ((BEL.out.trans (hb.mono BEL.out.size)).alloc ((BEL.out.trans (hb.mono BEL.out.size)).size) (.cells (iA (itS id kd num px py)) 69));clear hb)) | (go_at_call 25;refine (CD _ BEL.out).out.mono ?_;rintro e w2 ⟨rfl,hb⟩;replace OX:=y33h ((OX.out.later hb).alloc (.cells (iA (⟨x1,x2,x3,x4,x5,x6,x7,x8,false⟩:Itm)) 69));replace OA:=y33h ((OA.out.later hb).alloc (.cells (iA (⟨x1,x2,x3,x4,x5,x6,x7,x8,false⟩:Itm)) 69));replace OT:=y33h ((OT.out.later hb).alloc (.cells (iA (⟨x1,x2,x3,x4,x5,x6,x7,x8,false⟩:Itm)) 69));replace BEL:=y33h ((BEL.out.trans (hb.mono BEL.out.size)).alloc ((BEL.out.trans (hb.mono BEL.out.size)).size) (.cells (iA (⟨x1,x2,x3,x4,x5,x6,x7,x8,false⟩:Itm)) 69));clear hb;have lOX:=OX.out.cell;have zOX:=OX.out.lt) | (go_at_call 101;go_loud (refine (CM2 _ BEL.out).out.mono ?_;rintro e w3 ⟨sv',ov',kv',rfl,hx,hb⟩;have hst:=hx.lies HW.out (BEL.out.trans (hb.mono BEL.out.size));have hBs:=OT.out.lt;have hfv3:fv.oneCell' = true:=zar hst.lf;have hsv3:sv'.oneCell' = true:=(by obtain ⟨_,_,_,_,e,_⟩:=hst.ls;rw [e];rfl);have hov3:ov'.oneCell' = true:=(by obtain ⟨_,_,_,_,e,_⟩:=hst.lo;rw [e];rfl);have hkv3:kv'.oneCell' = true:=(by obtain ⟨_,_,e⟩:=hst.lk.val;rw [e];rfl);unfold Value.oneCell' at hfv3 hsv3 hov3 hkv3;have HST:=y33h hx;have HBS:=y33h hBs;have BE2:=y33h (BEL.out.trans (hb.mono BEL.out.size));have OT2:=y33h (OT.out.later hb);clear hst hx hb hBs lOX zOX)) | (refine wpList_load_mid (by rfl) 43 _ (by rfl) w.heap.size 0 (by rfl) (stA s fv sv ov kv).toList _ OA.out.range Tryz.underlying43 (by rfl) (by kernel_rfl) ?_) | (refine wpList_store_mid (by rfl) 43 _ _ (by rfl) (w.heap.size + 1) 0 (stA us fv sv' ov' kv') (by rfl) (by rfl) (OT2.out.there (by rfl)) (by kernel_rfl) (by simp [Value.oneCell',hfv3,hsv3,hov3,hkv3]) ?_) | fail)
     have HK:=y33h (And.intro (OT2.out.sets (stA us fv sv' ov' kv').toList (by rfl)) (And.intro (zab (b:=w.heap.size + 1) (by omega) (stA us fv sv' ov' kv').toList 0 BE2.out) (HST.out.sets HBS.out (stA us fv sv' ov' kv').toList)))
     have hle:=BEL.out.size
     clear OX OA OT BEL OT2 BE2 HST
     revert HK
     generalize World.setCells _ _ _ _ = WW
     intro HK
     exact zae (by rfl) (by rfl) (by rfl) HK.out.1.range Tryz.underlying43 (by rfl) (by kernel_rfl) rfl ⟨sv',ov',kv',rfl,HK.out.2.2.lies HW.out HK.out.2.1,HK.out.2.2.mono hle,HK.out.2.1⟩
   · rw [(E.out hw).1,(E.out hw).2]
     clear E EC ED
     have hways:ok = false ∨ (ok = true ∧ hd.d = true):=by
       cases ok with
       | false=>exact .inl rfl
       | true =>
         refine .inr ⟨rfl,?_⟩
         cases hq:hd.d with
         | false=>exact absurd ⟨rfl,hq⟩ hw
         | true=>rfl
     clear hw
     obtain ⟨x1,x2,x3,x4,x5,x6,x7,x8,xd⟩:=hd
     change ok = false ∨ (ok = true ∧ xd = true) at hways
     rcases hways with rfl | ⟨rfl,rfl⟩
     · go_enter Tryz.func52,Tryz.ntmps52
       go_wp2_with (first | (go_at_call 100;go_loud (refine (CS _).out.mono ?_;rintro e w1 ⟨rfl,hb⟩;have OX:=y33h (Own.new w1 (iA (itS id kd num px py)) 69);replace OA:=y33h ((OA.out.later hb).alloc (.cells (iA (itS id kd num px py)) 69));replace OT:=y33h ((OT.out.later hb).alloc (.cells (iA (itS id kd num px py)) 69));replace BEL:=y33h ((BEL.out.trans (hb.mono BEL.out.size)).alloc ((BEL.out.trans (hb.mono BEL.out.size)).size) (.cells (iA (itS id kd num px py)) 69));clear hb)) | (go_at_call 25;refine (CD _ BEL.out).out.mono ?_;rintro e w2 ⟨rfl,hb⟩;replace OX:=y33h ((OX.out.later hb).alloc (.cells (iA (⟨x1,x2,x3,x4,x5,x6,x7,x8,xd⟩:Itm)) 69));replace OA:=y33h ((OA.out.later hb).alloc (.cells (iA (⟨x1,x2,x3,x4,x5,x6,x7,x8,xd⟩:Itm)) 69));replace OT:=y33h ((OT.out.later hb).alloc (.cells (iA (⟨x1,x2,x3,x4,x5,x6,x7,x8,xd⟩:Itm)) 69));replace BEL:=y33h ((BEL.out.trans (hb.mono BEL.out.size)).alloc ((BEL.out.trans (hb.mono BEL.out.size)).size) (.cells (iA (⟨x1,x2,x3,x4,x5,x6,x7,x8,xd⟩:Itm)) 69));clear hb;have lOX:=OX.out.cell;have zOX:=OX.out.lt) | (refine wpList_load_mid (by rfl) 43 _ (by rfl) w.heap.size 0 (by rfl) (stA s fv sv ov kv).toList _ OA.out.range Tryz.underlying43 (by rfl) (by kernel_rfl) ?_) | (refine wpList_store_mid (by rfl) 43 _ _ (by rfl) (w.heap.size + 1) 0 (stA s fv sv ov kv) (by rfl) (by rfl) (OT.out.there (by rfl)) (by kernel_rfl) (by simp [Value.oneCell',hfv,hsv,hov,hkv]) ?_) | fail)
       have HK:=y33h (And.intro (OT.out.sets (stA s fv sv ov kv).toList (by rfl)) (zab (b:=w.heap.size + 1) (by omega) (stA s fv sv ov kv).toList 0 BEL.out))
       clear OX OA OT BEL
       revert HK
       generalize World.setCells _ _ _ _ = WW
       intro HK
       exact zae (by rfl) (by rfl) (by rfl) HK.out.1.range Tryz.underlying43 (by rfl) (by kernel_rfl) rfl ⟨sv,ov,kv,rfl,HW.out.later HK.out.2,.refl _ _ _ _ _ _,HK.out.2⟩
     · go_enter Tryz.func52,Tryz.ntmps52
       go_wp2_with (first | (go_at_call 100;go_loud (refine (CS _).out.mono ?_;rintro e w1 ⟨rfl,hb⟩;have OX:=y33h (Own.new w1 (iA (itS id kd num px py)) 69);replace OA:=y33h ((OA.out.later hb).alloc (.cells (iA (itS id kd num px py)) 69));replace OT:=y33h ((OT.out.later hb).alloc (.cells (iA (itS id kd num px py)) 69));replace BEL:=y33h ((BEL.out.trans (hb.mono BEL.out.size)).alloc ((BEL.out.trans (hb.mono BEL.out.size)).size) (.cells (iA (itS id kd num px py)) 69));clear hb)) | (go_at_call 25;refine (CD _ BEL.out).out.mono ?_;rintro e w2 ⟨rfl,hb⟩;replace OX:=y33h ((OX.out.later hb).alloc (.cells (iA (⟨x1,x2,x3,x4,x5,x6,x7,x8,true⟩:Itm)) 69));replace OA:=y33h ((OA.out.later hb).alloc (.cells (iA (⟨x1,x2,x3,x4,x5,x6,x7,x8,true⟩:Itm)) 69));replace OT:=y33h ((OT.out.later hb).alloc (.cells (iA (⟨x1,x2,x3,x4,x5,x6,x7,x8,true⟩:Itm)) 69));replace BEL:=y33h ((BEL.out.trans (hb.mono BEL.out.size)).alloc ((BEL.out.trans (hb.mono BEL.out.size)).size) (.cells (iA (⟨x1,x2,x3,x4,x5,x6,x7,x8,true⟩:Itm)) 69));clear hb;have lOX:=OX.out.cell;have zOX:=OX.out.lt) | (refine wpList_load_mid (by rfl) 43 _ (by rfl) w.heap.size 0 (by rfl) (stA s fv sv ov kv).toList _ OA.out.range Tryz.underlying43 (by rfl) (by kernel_rfl) ?_) | (refine wpList_store_mid (by rfl) 43 _ _ (by rfl) (w.heap.size + 1) 0 (stA s fv sv ov kv) (by rfl) (by rfl) (OT.out.there (by rfl)) (by kernel_rfl) (by simp [Value.oneCell',hfv,hsv,hov,hkv]) ?_) | fail)
       have HK:=y33h (And.intro (OT.out.sets (stA s fv sv ov kv).toList (by rfl)) (zab (b:=w.heap.size + 1) (by omega) (stA s fv sv ov kv).toList 0 BEL.out))
       clear OX OA OT BEL
       revert HK
       generalize World.setCells _ _ _ _ = WW
       intro HK
       exact zae (by rfl) (by rfl) (by rfl) HK.out.1.range Tryz.underlying43 (by rfl) (by kernel_rfl) rfl ⟨sv,ov,kv,rfl,HW.out.later HK.out.2,.refl _ _ _ _ _ _,HK.out.2⟩
end Go.Proofs.YthnllikalobmeaaGreat
