/- Joined: RefJoin, RefSt3, RefSt4, RefSt5. -/
import Derived.Test.YtodfhabkdaiopaaGreatJ13
import Derived.Deep.RegionHeld3
import Derived.Test.YtodfhabkdaiopaaGreatJ25
import Derived.Test.YtodfhabkdaiopaaGreatJ12
namespace Go.Proofs.YtodfhabkdaiopaaGreat
set_option linter.unusedVariables false
set_option linter.unusedSimpArgs false
set_option maxRecDepth 100000
set_option maxHeartbeats 8000000
open Go.RowKit
theorem y26h {p:Prop} (h:p):Go.RowKit.Hid p:=Lib.hid h
theorem zo9 {w:World} {base:Nat} {l:List Fr} {U:Nat→Value} {v:Value} (h:w.ownsRow base 162 9 v l.length (frCs U 0 l)) (ht:∀ k f,l[k]?=some f→TxW w f.ids (U k)):FrW w l v:=by
 obtain ⟨oa,cap,g,e,h1,h2,hg⟩:=zaq h
 subst e
 refine ⟨U,oa,cap,g,0,rfl,h1,h2,fun h0=>⟨(hg h0).1,(hg h0).2.2⟩,fun k f hf j u hu=>?_,ht⟩
 have hk:=posA hf
 obtain ⟨rfl,_⟩:=hg (by omega)
 have hj:j < 9:=(List.getElem?_eq_some_iff.1 hu).1
 rw [Nat.zero_add,h.cellAt (k * 9 + j) (by omega),zcz _ _ _ _ _ hf _ hj,Nat.zero_add]
 exact hu
theorem zlq {w:World} {l:List Fr} {U:Nat→Value} {oa:Option Addr} {cap b o:Nat} (h:FrAt w l U oa cap b o):∀ j u,(frCs U 0 l)[j]?=some u→w.cell? ((⟨b,o,none⟩:Addr).add j)=some u:=by
 intro j u hu
 have hadd:(⟨b,o,none⟩:Addr).add j=⟨b,o + j,none⟩:=by unfold Addr.add;split <;> simp_all
 rw [hadd]
 have hj:=(List.getElem?_eq_some_iff.1 hu).1
 rw [zdh] at hj
 have hi:j / 9 < l.length:=by omega
 have hp:l[j / 9]?=some l[j / 9]:=List.getElem?_eq_getElem hi
 have e:j=j / 9 * 9 + j % 9:=by omega
 rw [e,zcz _ _ _ _ _ hp _ (by omega),Nat.zero_add] at hu
 have:=h.cell _ _ hp _ _ hu
 rw [show o + j / 9 * 9 + j % 9=o + j by omega] at this
 exact this
theorem zvz {U:Nat→Value} {s:Nat} {l:List Fr} (h:∀ i f,l[i]?=some f→(U (s + i)).oneCell'=true):∀ u∈frCs U s l,u.oneCell'=true:=by
 induction l generalizing s with
 | nil=>simp [frCs]
 | cons p l ih =>
   intro u hu
   simp only [frCs,List.mem_append] at hu
   rcases hu with hu | hu
   · exact oneF p (h 0 p rfl) u hu
   · exact ih (s:=s + 1) (fun i q hq=>by have:=h (i + 1) q (by simpa using hq);rwa [show s + 1 + i=s + (i + 1) by omega]) u hu
theorem zn8 {w:World} {l:List Fr} {U:Nat→Value} {oa:Option Addr} {cap b o:Nat} (h:FrAt w l U oa cap b o):∀ u∈frCs U 0 l,u.oneCell'=true :=
 zvz fun i f hf=>by
   obtain ⟨ou,cu,e⟩:=(h.ids i f hf).val
   rw [Nat.zero_add,e];rfl
def zev (n:Nat) (U V:Nat→Value):Nat→Value:=fun i=>if i < n then U i else V (i - n)
theorem ztm (U V:Nat→Value) (l m:List Fr):frCs U 0 l ++ frCs V 0 m=frCs (zev l.length U V) 0 (l ++ m):=by
 rw [zgv]
 congr 1
 · exact ze9 fun i hi=>by simp [zev,hi]
 · have:∀ (m:List Fr) (s:Nat),frCs V s m=frCs (zev l.length U V) (l.length + s) m:=by
     intro m
     induction m with
     | nil=>intro s;rfl
     | cons p m ih =>
       intro s
       rw [frCs,frCs,ih (s + 1),show l.length + s + 1=l.length + (s + 1) by omega]
       have e:zev l.length U V (l.length + s)=V s:=by unfold zev;rw [if_neg (by omega),show l.length + s - l.length=s by omega]
       rw [e]
   have:=this m 0
   rw [Nat.add_zero] at this
   rw [Nat.zero_add]
   exact this
theorem zyv {w:World} {base:Nat} {l m:List Fr} {U V:Nat→Value} {v:Value} (h:w.ownsRow base 162 9 v (l.length + m.length) (frCs U 0 l ++ frCs V 0 m)) (h1:∀ k f,l[k]?=some f→TxW w f.ids (U k)) (h2:∀ k f,m[k]?=some f→TxW w f.ids (V k)):FrW w (l ++ m) v:=by
 rw [ztm] at h
 refine zo9 (U:=zev l.length U V) (by rw [List.length_append];exact h) fun k f hf=>?_
 by_cases hk:k < l.length
 · rw [List.getElem?_append_left hk] at hf
   have:zev l.length U V k=U k:=by unfold zev;rw [if_pos hk]
   rw [this];exact h1 k f hf
 · rw [List.getElem?_append_right (by omega)] at hf
   have:zev l.length U V k=V (k - l.length):=by unfold zev;rw [if_neg hk]
   rw [this];exact h2 _ f hf
theorem MkS.grown {w wr w':World} {X:Array Value} (h:MkS w X wr) {l:List Itm} {v:Value} (ho:OwnI wr (w.heap.size + 1) l v) (hg:wr.grownBy w' v.ownBlock):MkS w X w' :=
 have hb:Below (w.heap.size + 1) wr w':=(Below.refl _ _).grown hg (by have:=h.o1.lt;omega) fun k hk=>by have:=(World.ownsRow.lt ho k hk).1;omega
 ⟨h.o1.below hb (by omega),h.bel.trans (hb.mono (by omega))⟩
def zae (s:St) (id:ByteArray):Itm × Bool:=getI (zar behT s.store s.out) id
theorem zde (s:St) (fv sv ov kv:Value) (id:ByteArray) (w:World) (hS:StW w s fv sv ov kv) (h1:s.store.length≤1000) (h2:s.out.length≤1000) :
   Calls Tryz.prog 68 #[stV s fv sv ov kv,.string id] w fun e w'=>e=.returned (.tuple #[iV (zae s id).1,.bool (zae s id).2])∧Below w.heap.size w w':=by
 have OA:=y26h ((Own.new w (stA s fv sv ov kv) 40).alloc (.cells #[.string ⟨#[]⟩,.int .i64 0,.int .i64 0,.int .i64 0,.string ⟨#[]⟩,.int .i64 0,.complex .f64 0 0,.bool false] 58))
 have OH:=y26h (Own.newAt (w.alloc (.cells (stA s fv sv ov kv) 40)) #[.string ⟨#[]⟩,.int .i64 0,.int .i64 0,.int .i64 0,.string ⟨#[]⟩,.int .i64 0,.complex .f64 0 0,.bool false] 58 (b:=w.heap.size + 1) (by simp))
 have BEL:=y26h (((Below.refl w.heap.size w).alloc (Nat.le_refl _) (.cells (stA s fv sv ov kv) 40)).alloc (by simp) (.cells #[.string ⟨#[]⟩,.int .i64 0,.int .i64 0,.int .i64 0,.string ⟨#[]⟩,.int .i64 0,.complex .f64 0 0,.bool false] 58))
 have LS:=y26h ((hS.alloc (.cells (stA s fv sv ov kv) 40)).alloc (.cells #[.string ⟨#[]⟩,.int .i64 0,.int .i64 0,.int .i64 0,.string ⟨#[]⟩,.int .i64 0,.complex .f64 0 0,.bool false] 58))
 clear hS
 have CB:=fun w' h h'=>y26h (zkg behT zgp s.store s.out sv ov w' h h' h1 h2)
 have CG:=fun v w' h=>y26h (zeh (zar behT s.store s.out) id v w' h)
 unfold zae
 generalize getI (zar behT s.store s.out) id=gg at *
 obtain ⟨g,gb⟩:=gg
 simp only at CG ⊢
 generalize zar behT s.store s.out=B at *
 clear h1 h2
 have lOA:=OA.out.cell
 have zOA:=OA.out.lt
 go_enter Tryz.func68,Tryz.ntmps68
 go_wp2_with (first | (go_at_call 39;with_reducible refine (CB _ LS.out.ls LS.out.lo).out.mono ?_;rintro e w1 ⟨v2,rfl,hr,hb⟩;have LB:=y26h hr;replace OA:=y26h (OA.out.later hb);replace OH:=y26h (OH.out.later hb);replace BEL:=y26h (BEL.out.trans (hb.mono BEL.out.size));clear hr hb lOA zOA) | (go_at_call 19;with_reducible refine (CG _ _ LB.out).out.mono ?_;rintro e w2 ⟨rfl,hb⟩;replace OH:=y26h (OH.out.later hb);replace BEL:=y26h (BEL.out.trans (hb.mono BEL.out.size));clear hb;have l1:=OH.out.cell;have f1:=OH.out.free;have z1:=OH.out.lt) | fail)
 have key:=And.intro (zbr OH.out (.string g.id) (.int .i64 g.r) (.int .i64 g.c) (.int .i64 g.st) (.string g.kd) (.int .i64 g.num) (.complex .f64 g.x g.y) (.bool g.d)) (za5 (b:=w.heap.size + 1) BEL.out (by omega) (.string g.id) (.int .i64 g.r) (.int .i64 g.c) (.int .i64 g.st) (.string g.kd) (.int .i64 g.num) (.complex .f64 g.x g.y) (.bool g.d))
 clear l1 f1 z1
 unfold st8 at key
 revert key
 generalize World.setCell (World.setCell (World.setCell (World.setCell (World.setCell (World.setCell (World.setCell (World.setCell _ _ _) _ _) _ _) _ _) _ _) _ _) _ _) _ _=WW
 rintro ⟨of,bf⟩
 have lf:=of.cell
 refine bodyPost_ret (v:=.tuple #[iV g,.bool gb]) (by simp [results,Tryz.results68,go_sem,lf]) rfl ⟨rfl,bf⟩
def newS (r:Int) (f:Pr):St:=⟨r,f,[],[],⟨zad,[]⟩,0,0,0⟩
def z1z:Pr:=.node 0 ⟨#[]⟩ 0 0 0 []
def zhj:St:=newS 0 z1z
def zdd (r:Int) (f:Pr):Bool:=Pr.mayB f && inB r 1 8
abbrev stN (r:Int) (f:Pr) (fv:Value):List Value:=[.int .i64 r,.int .i64 f.op,.string f.text,.int .i64 f.n,.complex .f64 f.x f.y,fv,.slice none 0 0,.slice none 0 0,.int .i64 0,.int .i64 0,.int .i64 0,.int .i64 0,.int .i64 0,.int .i64 0,.int .i64 0,.int .i64 0,.slice none 0 0,.int .i64 0,.int .i64 0,.int .i64 0]
abbrev stZ:List Value:=[.int .i64 0,.int .i64 0,.string ⟨#[]⟩,.int .i64 0,.complex .f64 0 0,.slice none 0 0,.slice none 0 0,.slice none 0 0,.int .i64 0,.int .i64 0,.int .i64 0,.int .i64 0,.int .i64 0,.int .i64 0,.int .i64 0,.int .i64 0,.slice none 0 0,.int .i64 0,.int .i64 0,.int .i64 0]
theorem zmr {w:World} {r:Int} {f:Pr} {fv:Value} (h:LP w f fv):StW w (newS r f) fv (.slice none 0 0) (.slice none 0 0) (.slice none 0 0) :=
 ⟨h,⟨none,0,0,0,rfl,Nat.le_refl _,by decide,fun h=>absurd h (by simp [newS]),fun k i hk=>by simp [newS] at hk,fun i hi=>by simp [newS] at hi⟩,
  ⟨none,0,0,0,rfl,Nat.le_refl _,by decide,fun h=>absurd h (by simp [newS]),fun k i hk=>by simp [newS] at hk,fun i hi=>by simp [newS] at hi⟩,
  ⟨fun _=>.nilFunc,none,0,0,0,rfl,Nat.le_refl _,by decide,fun h=>absurd h (by simp [newS]),fun k f hk=>by simp [newS] at hk,fun k f hk=>by simp [newS] at hk⟩⟩
theorem zsr (w:World):StW w zhj (.slice none 0 0) (.slice none 0 0) (.slice none 0 0) (.slice none 0 0):=zmr (zgy (by decide))
theorem zig (r:Int) (f:Pr) (fv:Value) (w:World) (hL:LP w f fv) (hf:f.size≤1000) :
   Calls Tryz.prog 13 #[.int .i64 r,prV f fv] w fun e w'=>((zdd r f=true∧e=.returned (.tuple #[stV (newS r f) fv (.slice none 0 0) (.slice none 0 0) (.slice none 0 0),.int .i64 0])) ∨ (zdd r f=false∧e=.returned (.tuple #[stV zhj (.slice none 0 0) (.slice none 0 0) (.slice none 0 0) (.slice none 0 0),.int .i64 1])))∧Below w.heap.size w w':=by
 obtain ⟨oq,cq,b,o,V,rfl,_,_,_,_,_,_⟩:=zba hL
 have OP:=y26h ((Own.new w #[.int .i64 f.op,.string f.text,.int .i64 f.n,.complex .f64 f.x f.y,.slice oq f.kids.length cq] 32).alloc (.cells stZ.toArray 40))
 have O4:=y26h (Own.newAt (w.alloc (.cells #[.int .i64 f.op,.string f.text,.int .i64 f.n,.complex .f64 f.x f.y,.slice oq f.kids.length cq] 32)) stZ.toArray 40 (b:=w.heap.size + 1) (by simp))
 have BEL:=y26h (((Below.refl w.heap.size w).alloc (Nat.le_refl _) (.cells #[.int .i64 f.op,.string f.text,.int .i64 f.n,.complex .f64 f.x f.y,.slice oq f.kids.length cq] 32)).alloc (by simp) (.cells stZ.toArray 40))
 have LF:=y26h ((hL.atAlloc (.cells #[.int .i64 f.op,.string f.text,.int .i64 f.n,.complex .f64 f.x f.y,.slice oq f.kids.length cq] 32)).atAlloc (.cells stZ.toArray 40))
 clear hL
 have C1:=fun w' h=>y26h (zhr f (.slice oq f.kids.length cq) w' h hf)
 have HE:=y26h (show zdd r f=(Pr.mayB f && inB r 1 8) from rfl)
 generalize zdd r f=ok at *
 generalize Pr.mayB f=x1 at *
 have lOP:=OP.out.cell
 have zOP:=OP.out.lt
 go_enter Tryz.func13,Tryz.ntmps13
 go_upto_region 2 with (first | (go_at_call 57;with_reducible refine (C1 _ LF.out).out.mono ?_;rintro e w1 ⟨rfl,hb⟩;replace OP:=y26h (OP.out.later hb);replace O4:=y26h (O4.out.later hb);replace BEL:=y26h (BEL.out.trans (hb.mono BEL.out.size));clear hb;replace lOP:=OP.out.cell;replace zOP:=OP.out.lt) | fail)
 clear C1
 by_cases hbad:x1=false ∨ r < 1 ∨ 8 < r
 case pos =>
   have E:=y26h (show ok=false by
     rw [HE.out]
     rcases hbad with h | h | h
     · rw [h];rfl
     · unfold inB;rw [decide_eq_false (show ¬ 1≤r by omega)];simp
     · unfold inB;rw [decide_eq_false (show ¬ r≤8 by omega)];simp)
   have key:=And.intro (O4.out.sets stZ (by rfl)) (zaa (b:=w.heap.size + 1) (Nat.le_succ _) stZ 0 BEL.out)
   have HK:=y26h key
   clear key
   have hways:x1=false ∨ (x1=true∧decide (r < 1)=true) ∨ (x1=true∧decide (r < 1)=false∧decide (8 < r)=true):=by
     cases x1
     · exact .inl rfl
     · by_cases h:r < 1
       · exact .inr (.inl ⟨rfl,decide_eq_true h⟩)
       · refine .inr (.inr ⟨rfl,decide_eq_false h,decide_eq_true ?_⟩)
         rcases hbad with h' | h' | h'
         · cases h'
         · exact absurd h' h
         · exact h'
   clear hbad HE
   rcases hways with rfl | ⟨rfl,g1⟩ | ⟨rfl,g1,g2⟩
   all_goals
     go_wp2_with (first | (refine wpList_store_mid (by rfl) 40 _ _ (by rfl) (w.heap.size + 1) 0 stZ.toArray (by rfl) (by rfl) (O4.out.there (by rfl)) (by kernel_rfl) (by simp [Value.oneCell']) ?_) | fail)
     revert HK
     generalize World.setCells _ _ _ _=WW
     intro HK
     refine zab (by rfl) (by rfl) (by rfl) HK.out.1.range Tryz.underlying40 (by rfl) (by kernel_rfl) rfl ⟨.inr ⟨E.out,rfl⟩,HK.out.2⟩
 have hx:x1=true:=by cases x1;exact absurd (.inl rfl) hbad;rfl
 subst hx
 have g1:decide (r < 1)=false:=decide_eq_false fun h=>hbad (.inr (.inl h))
 have g2:decide (8 < r)=false:=decide_eq_false fun h=>hbad (.inr (.inr h))
 have E:=y26h (show ok=true by
   rw [HE.out]
   unfold inB
   rw [decide_eq_true (show 1≤r from Int.not_lt.1 fun h=>hbad (.inr (.inl h))),decide_eq_true (show r≤8 from Int.not_lt.1 fun h=>hbad (.inr (.inr h)))];rfl)
 clear hbad HE
 have HK:=y26h (And.intro (O4.out.sets (stN r f (.slice oq f.kids.length cq)) (by rfl)) (zaa (b:=w.heap.size + 1) (Nat.le_succ _) (stN r f (.slice oq f.kids.length cq)) 0 BEL.out))
 go_wp2_with (first | (refine wpList_store_mid (by rfl) 40 _ _ (by rfl) (w.heap.size + 1) 0 (stN r f (.slice oq f.kids.length cq)).toArray (by rfl) (by rfl) (O4.out.there (by rfl)) (by kernel_rfl) (by simp [Value.oneCell']) ?_) | fail)
 revert HK
 generalize World.setCells _ _ _ _=WW
 intro HK
 refine zab (by rfl) (by rfl) (by rfl) HK.out.1.range Tryz.underlying40 (by rfl) (by kernel_rfl) rfl ⟨.inl ⟨E.out,rfl⟩,HK.out.2⟩
end Go.Proofs.YtodfhabkdaiopaaGreat
