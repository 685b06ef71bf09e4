/- Joined: RefSt3, RefSt4, RefSt5, RowF. -/
import Derived.Test.YthnllikalobmeaaGreatK25
import Derived.Test.YthnllikalobmeaaGreatK12
namespace Go.Proofs.YthnllikalobmeaaGreat
set_option linter.unusedVariables false
set_option linter.unusedSimpArgs false
set_option maxRecDepth 100000
set_option maxHeartbeats 8000000
open Go.RowKit
theorem y27h {p:Prop} (h:p):Hid p:=Lib.hid h
def zd8 (s:St):List Itm:=s.store.filter (fun i=>!i.d)
def z1c (F:Nat → List Itm) (len:Nat) (X:Array Value) (w:World) (lv iv:Value) (wr:World):Prop :=
 ∃ (k:Nat) (sv:Value),k ≤ len ∧ iv = .int .i64 k ∧ sv = lv ∧ Hid (OwnI wr (w.heap.size + 1) (F k) sv) ∧ Hid (MkS w X wr)
theorem MkS.grown {w wr w':World} {X:Array Value} (h:MkS w X wr) {l:List Itm} {v:Value} (ho:OwnI wr (w.heap.size + 1) l v) (hg:wr.grownBy w' v.ownBlock):MkS w X w' :=
 have hb:Below (w.heap.size + 1) wr w':=(Below.refl _ _).grown hg (by have:=h.o1.lt;omega) fun k hk=>by have:=(World.ownsRow.lt ho k hk).1;omega
 ⟨h.o1.below hb (by omega),h.bel.trans (hb.mono (by omega))⟩
theorem zmw (s:St) (fv sv ov kv:Value) (w:World) (hS:StW w s fv sv ov kv) (hlen:s.store.length ≤ 10000) :
   Calls Tryz.prog 22 #[stV s fv sv ov kv] w fun e w'=>∃ v',e = .returned v' ∧ OwnI w' w.heap.size (zd8 s) v' ∧ Below w.heap.size w w':=by
 unfold zd8
 obtain ⟨oa,cap,b,o,rfl,hr⟩:=hS.ls
 obtain ⟨i0,hi,hz0,hz1,hz2⟩:=info_parts zce
 have HR:=y27h hr
 have hcap:=hr.len
 have hmax:=hr.max
 unfold maxLen at hmax
 clear hr hS
 generalize hl:s.store = l at *
 have HL:=y27h hl
 clear hl
 generalize hn:l.length = len at *
 have HN:=y27h hn
 clear hn
 have HI0:=y27h (show MkS w (stA s fv (.slice oa len cap) ov kv) (w.alloc (.cells (stA s fv (.slice oa len cap) ov kv) 43)) from ⟨Has.new w _ _,(Below.refl _ _).alloc (Nat.le_refl _) _⟩)
 go_enter Tryz.func22,Tryz.ntmps22
 go_wp2_with fail
 go_loopw [3,4] (fun lv iv wr=>z1c (fun k=>(l.take k).filter (fun i:Itm=>!i.d)) len (stA s fv (.slice oa len cap) ov kv) w lv iv wr) (fun _ iv _=>len - (intOf iv).toNat)
 case atStart=>exact ⟨0,_,Nat.zero_le _,rfl,rfl,by unfold Hid;exact OwnI.nil _ _,HI0⟩
 case round =>
   clear HI0
   obtain ⟨k,sv2,hk,rfl,rfl,HO,HS⟩:=hrel
   replace HO:=y27h (show OwnI wr (w.heap.size + 1) ((l.take k).filter (fun i:Itm=>!i.d)) sv2 from HO.out)
   have lOS:=HS.out.o1.cell
   have zOS:=HS.out.o1.lt
   by_cases hlt:k < len
   · obtain ⟨i,hi9⟩:∃ i,l[k]? = some i:=⟨_,List.getElem?_eq_getElem (by rw [HN.out];exact hlt)⟩
     obtain ⟨rfl,hb0⟩:=HR.out.at0 (by rw [HN.out];omega)
     obtain ⟨c0,c1,c2,c3,c4,c5,c6,c7⟩:=za0 (w:=wr) (fun j u hu=>(HS.out.bel.cell (p:=⟨b,o + k * 8 + j,none⟩) hb0).trans (HR.out.cell k i hi9 j u hu))
     have zb:=Nat.lt_of_lt_of_le hb0 HS.out.bel.size
     have zw:=HS.out.bel.size
     have HI:=y27h hi9
     have HB0:=y27h hb0
     have k0:(0:Int) ≤ (k:Int):=by omega
     have k1:(k:Int) < (len:Int):=by omega
     clear hi9 hb0
     cases ht:i.d
     · rw [ht] at c7
       have hfl:=zgg (p:=(fun i:Itm=>!i.d)) (l:=l) (k:=k)
       have HF:=y27h (zgh (p:=(fun i:Itm=>!i.d)) HI.out (by rw [ht];rfl))
       have ei:i = ⟨i.id,i.r,i.c,i.st,i.kd,i.num,i.x,i.y,false⟩:=by rw [← ht]
       have HEI:=y27h ei
       clear ei
       have HO3:=y27h (HO.out.alloc (.cells #[.string i.id,.int .i64 i.r,.int .i64 i.c,.int .i64 i.st,.string i.kd,.int .i64 i.num,.complex .f64 i.x i.y,.bool false] 69))
       have HS3:=y27h (HS.out.alloc (.cells #[.string i.id,.int .i64 i.r,.int .i64 i.c,.int .i64 i.st,.string i.kd,.int .i64 i.num,.complex .f64 i.x i.y,.bool false] 69))
       have hown:(wr.alloc (.cells #[.string i.id,.int .i64 i.r,.int .i64 i.c,.int .i64 i.st,.string i.kd,.int .i64 i.num,.complex .f64 i.x i.y,.bool false] 69)).ownsRow (w.heap.size + 1) 69 8 sv2 ((l.take k).filter (fun i:Itm=>!i.d)).length (zat ((l.take k).filter (fun i:Itm=>!i.d))):=HO3.out
       go_wp2_with (at_builtin;refine wpList_append_lies _ (by rfl) _ _ _ (by rfl) (w.heap.size + 1) 69 i0 _ 8 88 Tryz.underlying41 hi hz0 hz1 hz2 rfl (by omega) sv2 ((l.take k).filter (fun i:Itm=>!i.d)).length (zat ((l.take k).filter (fun i:Itm=>!i.d))) (by rfl) hown ⟨wr.heap.size,0,none⟩ 1 1 (ic ⟨i.id,i.r,i.c,i.st,i.kd,i.num,i.x,i.y,false⟩) (by rfl) (by rfl) (zgo (i:=⟨i.id,i.r,i.c,i.st,i.kd,i.num,i.x,i.y,false⟩)) (zc7 _) (by omega) (by unfold maxLen;omega) (by omega) (by simp;omega) (wr.heap.size + 1) (by simp) ?_;intro g cap' w3 hown3 hgrow hat hlt3)
       have R1:=y27h (OwnI.push hown3 rfl)
       rw [← HEI.out] at R1
       have R2:=y27h (HS3.out.grown HO3.out hgrow)
       clear hown hown3 hgrow hat
       go_roundw
       case rel=>exact ⟨k + 1,_,by omega,by go_num,rfl,y27h (by show OwnI _ _ ((l.take (k + 1)).filter (fun i:Itm=>!i.d)) _;rw [HF.out];exact R1.out),R2⟩
       case measure=>simp [intOf];omega
     · rw [ht] at c7
       have HF:=y27h (zfc (p:=(fun i:Itm=>!i.d)) HI.out (by rw [ht];rfl))
       clear ht
       go_wp2_with fail
       go_roundw
       case rel=>exact ⟨k + 1,_,by omega,by go_num,rfl,y27h (by show OwnI _ _ ((l.take (k + 1)).filter (fun i:Itm=>!i.d)) _;rw [HF.out];exact HO.out),HS⟩
       case measure=>simp [intOf];omega
   · have e:len = k:=by omega
     subst e
     have h1:=HO.out
     rw [List.take_of_length_le (by rw [HN.out];omega)] at h1
     have H1:=y27h h1
     clear h1
     go_wp2_with fail
     go_ret
     exact ⟨_,rfl,H1.out.mono (by omega),HS.out.bel⟩
def zag (s:St) (id:ByteArray):Itm × Bool:=getI (zas behT s.store s.out) id
theorem zds (s:St) (fv sv ov kv:Value) (id:ByteArray) (w:World) (hS:StW w s fv sv ov kv) (h1:s.store.length ≤ 1000) (h2:s.out.length ≤ 1000) :
   Calls Tryz.prog 25 #[stV s fv sv ov kv,.string id] w fun e w'=>e = .returned (.tuple #[iV (zag s id).1,.bool (zag s id).2]) ∧ Below w.heap.size w w':=by
 have OA:=y27h ((Own.new w (stA s fv sv ov kv) 43).alloc (.cells #[.string ⟨#[]⟩,.int .i64 0,.int .i64 0,.int .i64 0,.string ⟨#[]⟩,.int .i64 0,.complex .f64 0 0,.bool false] 69))
 have OH:=y27h (Own.newAt (w.alloc (.cells (stA s fv sv ov kv) 43)) #[.string ⟨#[]⟩,.int .i64 0,.int .i64 0,.int .i64 0,.string ⟨#[]⟩,.int .i64 0,.complex .f64 0 0,.bool false] 69 (b:=w.heap.size + 1) (by simp))
 have BEL:=y27h (((Below.refl w.heap.size w).alloc (Nat.le_refl _) (.cells (stA s fv sv ov kv) 43)).alloc (by simp) (.cells #[.string ⟨#[]⟩,.int .i64 0,.int .i64 0,.int .i64 0,.string ⟨#[]⟩,.int .i64 0,.complex .f64 0 0,.bool false] 69))
 have LS:=y27h ((hS.alloc (.cells (stA s fv sv ov kv) 43)).alloc (.cells #[.string ⟨#[]⟩,.int .i64 0,.int .i64 0,.int .i64 0,.string ⟨#[]⟩,.int .i64 0,.complex .f64 0 0,.bool false] 69))
 clear hS
 have CB:=fun w' h h'=>y27h (zjo behT zjl s.store s.out sv ov w' h h' h1 h2)
 have CG:=fun v w' h=>y27h (zhz (zas behT s.store s.out) id v w' h)
 unfold zag
 generalize getI (zas behT s.store s.out) id = gg at *
 obtain ⟨g,gb⟩:=gg
 simp only at CG ⊢
 generalize zas behT s.store s.out = B at *
 clear h1 h2
 have lOA:=OA.out.cell
 have zOA:=OA.out.lt
 go_enter Tryz.func25,Tryz.ntmps25
 go_wp2_with (first | (go_at_call 58;with_reducible refine (CB _ LS.out.ls LS.out.lo).out.mono ?_;rintro e w1 ⟨v2,rfl,hr,hb⟩;have LB:=y27h hr;replace OA:=y27h (OA.out.later hb);replace OH:=y27h (OH.out.later hb);replace BEL:=y27h (BEL.out.trans (hb.mono BEL.out.size));clear hr hb lOA zOA) | (go_at_call 27;with_reducible refine (CG _ _ LB.out).out.mono ?_;rintro e w2 ⟨rfl,hb⟩;replace OH:=y27h (OH.out.later hb);replace BEL:=y27h (BEL.out.trans (hb.mono BEL.out.size));clear hb;have l1:=OH.out.cell;have f1:=OH.out.free;have z1:=OH.out.lt) | fail)
 have key:=And.intro (zbj OH.out (.string g.id) (.int .i64 g.r) (.int .i64 g.c) (.int .i64 g.st) (.string g.kd) (.int .i64 g.num) (.complex .f64 g.x g.y) (.bool g.d)) (za5 (b:=w.heap.size + 1) BEL.out (by omega) (.string g.id) (.int .i64 g.r) (.int .i64 g.c) (.int .i64 g.st) (.string g.kd) (.int .i64 g.num) (.complex .f64 g.x g.y) (.bool g.d))
 clear l1 f1 z1
 unfold st8 at key
 revert key
 generalize World.setCell (World.setCell (World.setCell (World.setCell (World.setCell (World.setCell (World.setCell (World.setCell _ _ _) _ _) _ _) _ _) _ _) _ _) _ _) _ _ = WW
 rintro ⟨of,bf⟩
 have lf:=of.cell
 refine bodyPost_ret (v:=.tuple #[iV g,.bool gb]) (by simp [results,Tryz.results25,go_sem,lf]) rfl ⟨rfl,bf⟩
def newS (r:Int) (f:Pr):St:=⟨r,f,[],[],⟨zad,[]⟩,0,0,0⟩
def z1x:Pr:=.node 0 ⟨#[]⟩ 0 0 0 []
def zgx:St:=newS 0 z1x
def zcu (r:Int) (f:Pr):Bool:=Pr.mayB f && inB r 1 8
abbrev stN (r:Int) (f:Pr) (fv:Value):List Value:=[.int .i64 r,.int .i64 f.op,.string f.text,.int .i64 f.n,.complex .f64 f.x f.y,fv,.slice none 0 0,.slice none 0 0,.int .i64 0,.int .i64 0,.int .i64 0,.int .i64 0,.int .i64 0,.int .i64 0,.int .i64 0,.int .i64 0,.slice none 0 0,.int .i64 0,.int .i64 0,.int .i64 0]
abbrev stZ:List Value:=[.int .i64 0,.int .i64 0,.string ⟨#[]⟩,.int .i64 0,.complex .f64 0 0,.slice none 0 0,.slice none 0 0,.slice none 0 0,.int .i64 0,.int .i64 0,.int .i64 0,.int .i64 0,.int .i64 0,.int .i64 0,.int .i64 0,.int .i64 0,.slice none 0 0,.int .i64 0,.int .i64 0,.int .i64 0]
theorem zl3 {w:World} {r:Int} {f:Pr} {fv:Value} (h:LP w f fv):StW w (newS r f) fv (.slice none 0 0) (.slice none 0 0) (.slice none 0 0) :=
 ⟨h,⟨none,0,0,0,rfl,Nat.le_refl _,by decide,fun h=>absurd h (by simp [newS]),fun k i hk=>by simp [newS] at hk,fun i hi=>by simp [newS] at hi⟩,
  ⟨none,0,0,0,rfl,Nat.le_refl _,by decide,fun h=>absurd h (by simp [newS]),fun k i hk=>by simp [newS] at hk,fun i hi=>by simp [newS] at hi⟩,
  ⟨fun _=>.nilFunc,none,0,0,0,rfl,Nat.le_refl _,by decide,fun h=>absurd h (by simp [newS]),fun k f hk=>by simp [newS] at hk,fun k f hk=>by simp [newS] at hk⟩⟩
theorem zsq (w:World):StW w zgx (.slice none 0 0) (.slice none 0 0) (.slice none 0 0) (.slice none 0 0):=zl3 (zgl (by decide))
theorem zh0 (r:Int) (f:Pr) (fv:Value) (w:World) (hL:LP w f fv) (hf:f.size ≤ 1000) :
   Calls Tryz.prog 15 #[.int .i64 r,prV f fv] w fun e w'=>((zcu r f = true ∧ e = .returned (.tuple #[stV (newS r f) fv (.slice none 0 0) (.slice none 0 0) (.slice none 0 0),.int .i64 0])) ∨ (zcu r f = false ∧ e = .returned (.tuple #[stV zgx (.slice none 0 0) (.slice none 0 0) (.slice none 0 0) (.slice none 0 0),.int .i64 1]))) ∧ Below w.heap.size w w':=by
 obtain ⟨oq,cq,b,o,V,rfl,_,_,_,_,_,_⟩:=za8 hL
 have OP:=y27h ((Own.new w #[.int .i64 f.op,.string f.text,.int .i64 f.n,.complex .f64 f.x f.y,.slice oq f.kids.length cq] 40).alloc (.cells stZ.toArray 43))
 have O4:=y27h (Own.newAt (w.alloc (.cells #[.int .i64 f.op,.string f.text,.int .i64 f.n,.complex .f64 f.x f.y,.slice oq f.kids.length cq] 40)) stZ.toArray 43 (b:=w.heap.size + 1) (by simp))
 have BEL:=y27h (((Below.refl w.heap.size w).alloc (Nat.le_refl _) (.cells #[.int .i64 f.op,.string f.text,.int .i64 f.n,.complex .f64 f.x f.y,.slice oq f.kids.length cq] 40)).alloc (by simp) (.cells stZ.toArray 43))
 have LF:=y27h ((hL.atAlloc (.cells #[.int .i64 f.op,.string f.text,.int .i64 f.n,.complex .f64 f.x f.y,.slice oq f.kids.length cq] 40)).atAlloc (.cells stZ.toArray 43))
 clear hL
 have C1:=fun w' h=>y27h (zg9 f (.slice oq f.kids.length cq) w' h hf)
 have HE:=y27h (show zcu r f = (Pr.mayB f && inB r 1 8) from rfl)
 generalize zcu r f = ok at *
 generalize Pr.mayB f = x1 at *
 have lOP:=OP.out.cell
 have zOP:=OP.out.lt
 go_enter Tryz.func15,Tryz.ntmps15
 go_upto_region 2 with (first | (go_at_call 40;with_reducible refine (C1 _ LF.out).out.mono ?_;rintro e w1 ⟨rfl,hb⟩;replace OP:=y27h (OP.out.later hb);replace O4:=y27h (O4.out.later hb);replace BEL:=y27h (BEL.out.trans (hb.mono BEL.out.size));clear hb;replace lOP:=OP.out.cell;replace zOP:=OP.out.lt) | fail)
 clear C1
 by_cases hbad:x1 = false ∨ r < 1 ∨ 8 < r
 case pos =>
   have E:=y27h (show ok = false by
     rw [HE.out]
     rcases hbad with h | h | h
     · rw [h];rfl
     · unfold inB;rw [decide_eq_false (show ¬ 1 ≤ r by omega)];simp
     · unfold inB;rw [decide_eq_false (show ¬ r ≤ 8 by omega)];simp)
   have key:=And.intro (O4.out.sets stZ (by rfl)) (zab (b:=w.heap.size + 1) (Nat.le_succ _) stZ 0 BEL.out)
   have HK:=y27h key
   clear key
   have hways:x1 = false ∨ (x1 = true ∧ decide (r < 1) = true) ∨ (x1 = true ∧ decide (r < 1) = false ∧ decide (8 < r) = true):=by
     cases x1
     · exact .inl rfl
     · by_cases h:r < 1
       · exact .inr (.inl ⟨rfl,decide_eq_true h⟩)
       · refine .inr (.inr ⟨rfl,decide_eq_false h,decide_eq_true ?_⟩)
         rcases hbad with h' | h' | h'
         · cases h'
         · exact absurd h' h
         · exact h'
   clear hbad HE
   rcases hways with rfl | ⟨rfl,g1⟩ | ⟨rfl,g1,g2⟩
   all_goals
     go_wp2_with (first | (refine wpList_store_mid (by rfl) 43 _ _ (by rfl) (w.heap.size + 1) 0 stZ.toArray (by rfl) (by rfl) (O4.out.there (by rfl)) (by kernel_rfl) (by simp [Value.oneCell']) ?_) | fail)
     revert HK
     generalize World.setCells _ _ _ _ = WW
     intro HK
     refine zae (by rfl) (by rfl) (by rfl) HK.out.1.range Tryz.underlying43 (by rfl) (by kernel_rfl) rfl ⟨.inr ⟨E.out,rfl⟩,HK.out.2⟩
 have hx:x1 = true:=by cases x1;exact absurd (.inl rfl) hbad;rfl
 subst hx
 have g1:decide (r < 1) = false:=decide_eq_false fun h=>hbad (.inr (.inl h))
 have g2:decide (8 < r) = false:=decide_eq_false fun h=>hbad (.inr (.inr h))
 have E:=y27h (show ok = true by
   rw [HE.out]
   unfold inB
   rw [decide_eq_true (show 1 ≤ r from Int.not_lt.1 fun h=>hbad (.inr (.inl h))),decide_eq_true (show r ≤ 8 from Int.not_lt.1 fun h=>hbad (.inr (.inr h)))];rfl)
 clear hbad HE
 have HK:=y27h (And.intro (O4.out.sets (stN r f (.slice oq f.kids.length cq)) (by rfl)) (zab (b:=w.heap.size + 1) (Nat.le_succ _) (stN r f (.slice oq f.kids.length cq)) 0 BEL.out))
 go_wp2_with (first | (refine wpList_store_mid (by rfl) 43 _ _ (by rfl) (w.heap.size + 1) 0 (stN r f (.slice oq f.kids.length cq)).toArray (by rfl) (by rfl) (O4.out.there (by rfl)) (by kernel_rfl) (by simp [Value.oneCell']) ?_) | fail)
 revert HK
 generalize World.setCells _ _ _ _ = WW
 intro HK
 refine zae (by rfl) (by rfl) (by rfl) HK.out.1.range Tryz.underlying43 (by rfl) (by kernel_rfl) rfl ⟨.inl ⟨E.out,rfl⟩,HK.out.2⟩
def RowF (w:World) (B:Nat) (l:List Itm) (v:Value):Prop:=∃ oa cap b o,v = .slice oa l.length cap ∧ RowAt 8 ic w l oa cap b o ∧ (0 < l.length → B ≤ b)
theorem RowF.row {w:World} {B:Nat} {l:List Itm} {v:Value} (h:RowF w B l v):Row 8 ic w l v:=by
 obtain ⟨oa,cap,b,o,e,h,_⟩:=h;exact ⟨oa,cap,b,o,e,h⟩
theorem RowF.later {w w':World} {B:Nat} {l:List Itm} {v:Value} (h:RowF w B l v) (hb:Below w.heap.size w w'):RowF w' B l v:=by
 obtain ⟨oa,cap,b,o,e,h,h2⟩:=h;exact ⟨oa,cap,b,o,e,h.later hb,h2⟩
theorem RowF.sub {w w':World} {B:Nat} {l:List Itm} {v:Value} (h:RowF w B l v) (hs:w.heap.size ≤ w'.heap.size) (hc:∀ b o,B ≤ b → w'.cell? ⟨b,o,none⟩ = w.cell? ⟨b,o,none⟩):RowF w' B l v:=by
 obtain ⟨oa,cap,b,o,e,h,h2⟩:=h
 refine ⟨oa,cap,b,o,e,⟨h.len,h.max,fun h0=>⟨(h.at0 h0).1,Nat.lt_of_lt_of_le (h.at0 h0).2 hs⟩,fun k i hk j u hu=>?_,h.ok⟩,h2⟩
 rw [hc _ _ (h2 (by have:=zbq hk;omega))]
 exact h.cell k i hk j u hu
theorem RowF.set {w:World} {B:Nat} {l:List Itm} {v:Value} (h:RowF w B l v) {b q:Nat} (hb:b < B) (u:Value):RowF (w.setCell ⟨b,q,none⟩ u) B l v :=
 h.sub (by simp [World.setCell]) fun b' o hb'=>by
   apply World.cell?_setCell_other
   intro e
   have:b = b':=congrArg Addr.block e
   omega
theorem RowF.sets {B b:Nat} {l:List Itm} {v:Value} (hb:b < B) (vs:List Value):∀ {w:World} (o:Nat),RowF w B l v → RowF (w.setCells b o vs) B l v:=by
 induction vs with
 | nil=>intro w o h;exact h
 | cons u r ih=>intro w o h;exact ih (o + 1) (h.set hb u)
theorem RowF.mono {w:World} {B B':Nat} {l:List Itm} {v:Value} (h:RowF w B l v) (hb:B' ≤ B):RowF w B' l v:=by
 obtain ⟨oa,cap,b,o,e,h,h2⟩:=h;exact ⟨oa,cap,b,o,e,h,fun h0=>Nat.le_trans hb (h2 h0)⟩
theorem OwnI.rowF {w:World} {B:Nat} {l:List Itm} {v:Value} (h:OwnI w B l v) (hok:∀ i ∈ l,i.id.size ≤ maxLen ∧ i.kd.size ≤ maxLen):RowF w B l v:=by
 obtain ⟨oa,cap,g,e,h1,h2,hg⟩:=zan h
 have hr:=h.row hok
 subst e
 refine ⟨oa,cap,g,0,rfl,⟨h1,h2,fun h0=>⟨(hg h0).1,(hg h0).2.2⟩,fun k i hk j u hu=>?_,hok⟩,fun h0=>(hg h0).2.1⟩
 obtain ⟨oa',cap',b',o',e',hr'⟩:=hr
 cases e'
 have h0:0 < l.length:=by have:=zbq hk;omega
 have e1:=(hg h0).1
 rw [(hr'.at0 h0).1] at e1
 cases e1
 exact hr'.cell k i hk j u hu
def zaq (s:St) (x:Itm):List Itm:=if hasT s.f x = true then putI (s.store.filter (neB x.id)) x else s.store.filter (neB x.id)
def laidOut (s:St) (x:Itm) (keep:Bool):List Itm:=if hasT s.f x = true then s.out.filter (neB x.id) else if keep = true then putI (s.out.filter (neB x.id)) x else s.out.filter (neB x.id)
def zm5 (s:St) (x:Itm) (keep:Bool):St:=⟨s.r,s.f,zaq s x,laidOut s x keep,s.k,s.count,s.clock,s.epoch⟩
theorem zo5 (s:St) (fv sv ov kv v:Value):(stA s fv sv ov kv).setIfInBounds 6 v = stA s fv v ov kv:=by simp
theorem zo6 (s:St) (fv sv ov kv v:Value):(stA s fv sv ov kv).setIfInBounds 7 v = stA s fv sv v kv:=by simp
theorem zg7 (s:St) (fv sv ov kv:Value) (x:Itm) (keep:Bool) (w:World) (hS:StW w s fv sv ov kv) (hx:x.id.size ≤ maxLen ∧ x.kd.size ≤ maxLen) (hf:s.f.size ≤ 1000) (h1:s.store.length ≤ 1000) (h2:s.out.length ≤ 1000) :
   Calls Tryz.prog 103 #[stV s fv sv ov kv,iV x,.bool keep] w fun e w'=>∃ sv' ov',e = .returned (stV (zm5 s x keep) fv sv' ov' kv) ∧ (StW w' (zm5 s x keep) fv sv' ov' kv ∧ RowF w' w.heap.size (zaq s x) sv' ∧ RowF w' w.heap.size (laidOut s x keep) ov') ∧ Below w.heap.size w w':=by
 have OA:=y27h (((Own.new w (stA s fv sv ov kv) 43).alloc (.cells (iA x) 69)).alloc (.cells stZ.toArray 43))
 have OX:=y27h ((Own.newAt (w.alloc (.cells (stA s fv sv ov kv) 43)) (iA x) 69 (b:=w.heap.size + 1) (by simp)).alloc (.cells stZ.toArray 43))
 have OT:=y27h (Own.newAt ((w.alloc (.cells (stA s fv sv ov kv) 43)).alloc (.cells (iA x) 69)) stZ.toArray 43 (b:=w.heap.size + 1 + 1) (by simp))
 have BEL:=y27h ((((Below.refl w.heap.size w).alloc (Nat.le_refl _) (.cells (stA s fv sv ov kv) 43)).alloc (by simp) (.cells (iA x) 69)).alloc (by simp;omega) (.cells stZ.toArray 43))
 have HW:=y27h hS
 have HOK1:=y27h hS.ls.oks
 have HOK2:=y27h hS.lo.oks
 have D1:=fun w' h=>y27h (zg6 s.store x.id sv w' h (by omega))
 have D2:=fun w' h=>y27h (zg6 s.out x.id ov w' h (by omega))
 have P1:=fun v w' h=>y27h (zdr (s.store.filter (neB x.id)) x v w' h (Nat.le_trans (List.length_filter_le _ _) (by omega)))
 have P2:=fun v w' h=>y27h (zdr (s.out.filter (neB x.id)) x v w' h (Nat.le_trans (List.length_filter_le _ _) (by omega)))
 have C:=fun w' h=>y27h (zrr x hx.1 s.f fv w' h hf)
 clear hS
 have lOA:=OA.out.cell
 have zOA:=OA.out.lt
 have lOX:=OX.out.cell
 have zOX:=OX.out.lt
 have fOA:=OA.out.free 6
 go_enter Tryz.func103,Tryz.ntmps103
 go_upto_region 2 with (first | (go_at_call 149;with_reducible refine (D1 _ (HW.out.ls.since BEL.out)).out.mono ?_;rintro e w1 ⟨v1,rfl,hr,hb⟩;obtain ⟨o1,c1,rfl⟩:=hr.len;have L1:=y27h ((OwnI.rowF hr (fun i hi=>HOK1.out i (List.mem_filter.1 hi).1)).mono (B':=w.heap.size + 1 + 1 + 1) (by simp;try omega));replace OA:=y27h (OA.out.later hb);replace OX:=y27h (OX.out.later hb);replace OT:=y27h (OT.out.later hb);replace BEL:=y27h (BEL.out.trans (hb.mono BEL.out.size));clear hb hr;replace lOA:=OA.out.cell;replace zOA:=OA.out.lt;replace fOA:=OA.out.free 6;replace lOX:=OX.out.cell;replace zOX:=OX.out.lt) | fail)
 have HP:=y27h (show Own (w1.setCell ⟨w.heap.size,6,none⟩ (.slice o1 (s.store.filter (neB x.id)).length c1)) w.heap.size (stA s fv (.slice o1 (s.store.filter (neB x.id)).length c1) ov kv) 43 ∧ Own (w1.setCell ⟨w.heap.size,6,none⟩ (.slice o1 (s.store.filter (neB x.id)).length c1)) (w.heap.size + 1) (iA x) 69 ∧ Own (w1.setCell ⟨w.heap.size,6,none⟩ (.slice o1 (s.store.filter (neB x.id)).length c1)) (w.heap.size + 1 + 1) stZ.toArray 43 ∧ Below w.heap.size w (w1.setCell ⟨w.heap.size,6,none⟩ (.slice o1 (s.store.filter (neB x.id)).length c1)) ∧ RowF (w1.setCell ⟨w.heap.size,6,none⟩ (.slice o1 (s.store.filter (neB x.id)).length c1)) (w.heap.size + 1 + 1 + 1) (s.store.filter (neB x.id)) (.slice o1 (s.store.filter (neB x.id)).length c1) from ⟨by rw [← zo5 s fv sv ov kv (.slice o1 (s.store.filter (neB x.id)).length c1)];exact OA.out.set 6 _,OX.out.setFar _ _ (by show w.heap.size + 1 ≠ w.heap.size;omega),OT.out.setFar _ _ (by show w.heap.size + 1 + 1 ≠ w.heap.size;omega),BEL.out.setCell (p:=⟨w.heap.size,6,none⟩) (Nat.le_refl _) _,L1.out.set (by omega) _⟩)
 clear OA OX OT BEL L1 lOA zOA fOA lOX zOX
 revert HP
 generalize w1.setCell ⟨w.heap.size,6,none⟩ (.slice o1 (s.store.filter (neB x.id)).length c1) = W1
 intro HP
 obtain ⟨oa_,ox_,ot_,be_,r0_⟩:=HP.out
 have OA:=y27h oa_
 have OX:=y27h ox_
 have OT:=y27h ot_
 have BEL:=y27h be_
 have L1:=y27h r0_
 clear oa_ ox_ ot_ be_ r0_ HP
 have lOA:=OA.out.cell
 have zOA:=OA.out.lt
 have fOA:=OA.out.free 7
 have lOX:=OX.out.cell
 have zOX:=OX.out.lt
 go_upto_region 3 with (first | (go_at_call 149;with_reducible refine (D2 _ (HW.out.lo.since BEL.out)).out.mono ?_;rintro e w2 ⟨v2,rfl,hr,hb⟩;obtain ⟨o2,c2,rfl⟩:=hr.len;have L2:=y27h ((OwnI.rowF hr (fun i hi=>HOK2.out i (List.mem_filter.1 hi).1)).mono (B':=w.heap.size + 1 + 1 + 1) (by have:=OT.out.lt;omega));replace OA:=y27h (OA.out.later hb);replace OX:=y27h (OX.out.later hb);replace OT:=y27h (OT.out.later hb);replace BEL:=y27h (BEL.out.trans (hb.mono BEL.out.size));replace L1:=y27h (L1.out.later hb);clear hb hr;replace lOA:=OA.out.cell;replace zOA:=OA.out.lt;replace fOA:=OA.out.free 7;replace lOX:=OX.out.cell;replace zOX:=OX.out.lt) | fail)
 have HP:=y27h (show Own (w2.setCell ⟨w.heap.size,7,none⟩ (.slice o2 (s.out.filter (neB x.id)).length c2)) w.heap.size (stA s fv (.slice o1 (s.store.filter (neB x.id)).length c1) (.slice o2 (s.out.filter (neB x.id)).length c2) kv) 43 ∧ Own (w2.setCell ⟨w.heap.size,7,none⟩ (.slice o2 (s.out.filter (neB x.id)).length c2)) (w.heap.size + 1) (iA x) 69 ∧ Own (w2.setCell ⟨w.heap.size,7,none⟩ (.slice o2 (s.out.filter (neB x.id)).length c2)) (w.heap.size + 1 + 1) stZ.toArray 43 ∧ Below w.heap.size w (w2.setCell ⟨w.heap.size,7,none⟩ (.slice o2 (s.out.filter (neB x.id)).length c2)) ∧ RowF (w2.setCell ⟨w.heap.size,7,none⟩ (.slice o2 (s.out.filter (neB x.id)).length c2)) (w.heap.size + 1 + 1 + 1) (s.store.filter (neB x.id)) (.slice o1 (s.store.filter (neB x.id)).length c1) ∧ RowF (w2.setCell ⟨w.heap.size,7,none⟩ (.slice o2 (s.out.filter (neB x.id)).length c2)) (w.heap.size + 1 + 1 + 1) (s.out.filter (neB x.id)) (.slice o2 (s.out.filter (neB x.id)).length c2) from ⟨by rw [← zo6 s fv (.slice o1 (s.store.filter (neB x.id)).length c1) ov kv (.slice o2 (s.out.filter (neB x.id)).length c2)];exact OA.out.set 7 _,OX.out.setFar _ _ (by show w.heap.size + 1 ≠ w.heap.size;omega),OT.out.setFar _ _ (by show w.heap.size + 1 + 1 ≠ w.heap.size;omega),BEL.out.setCell (p:=⟨w.heap.size,7,none⟩) (Nat.le_refl _) _,L1.out.set (by omega) _,L2.out.set (by omega) _⟩)
 clear OA OX OT BEL L1 L2 lOA zOA fOA lOX zOX
 revert HP
 generalize w2.setCell ⟨w.heap.size,7,none⟩ (.slice o2 (s.out.filter (neB x.id)).length c2) = W2
 intro HP
 obtain ⟨oa_,ox_,ot_,be_,r0_,r1_⟩:=HP.out
 have OA:=y27h oa_
 have OX:=y27h ox_
 have OT:=y27h ot_
 have BEL:=y27h be_
 have L1:=y27h r0_
 have L2:=y27h r1_
 clear oa_ ox_ ot_ be_ r0_ r1_ HP
 have lOA:=OA.out.cell
 have zOA:=OA.out.lt
 have fOA:=OA.out.free 6
 have lOX:=OX.out.cell
 have zOX:=OX.out.lt
 clear D1 D2
 go_upto_region 4 with (first | (go_at_call 92;with_reducible refine (C _ (HW.out.lf.later BEL.out (Nat.le_refl _))).out.mono ?_;rintro e w3 ⟨rfl,hb⟩;replace OA:=y27h (OA.out.later hb);replace OX:=y27h (OX.out.later hb);replace OT:=y27h (OT.out.later hb);replace BEL:=y27h (BEL.out.trans (hb.mono BEL.out.size));replace L1:=y27h (L1.out.later hb);replace L2:=y27h (L2.out.later hb);clear hb;replace lOA:=OA.out.cell;replace zOA:=OA.out.lt;replace fOA:=OA.out.free 6;replace lOX:=OX.out.cell;replace zOX:=OX.out.lt) | fail)
 clear C
 cases ht:hasT s.f x
 case false =>
   cases keep
   · go_upto_region 8 with fail
     clear lOA zOA fOA lOX zOX P1 P2
     have hfv:fv.oneCell' = true:=zar HW.out.lf
     have hkv:kv.oneCell' = true:=by obtain ⟨_,_,e⟩:=HW.out.lk.val;rw [e];rfl
     unfold Value.oneCell' at hfv hkv
     have HK:=y27h (And.intro (OT.out.sets (stA s fv (.slice o1 (s.store.filter (neB x.id)).length c1) (.slice o2 (s.out.filter (neB x.id)).length c2) kv).toList (by rfl)) (And.intro (zab (b:=w.heap.size + 1 + 1) (by omega) (stA s fv (.slice o1 (s.store.filter (neB x.id)).length c1) (.slice o2 (s.out.filter (neB x.id)).length c2) kv).toList 0 BEL.out) (And.intro (L1.out.sets (b:=w.heap.size + 1 + 1) (by omega) (stA s fv (.slice o1 (s.store.filter (neB x.id)).length c1) (.slice o2 (s.out.filter (neB x.id)).length c2) kv).toList 0) (L2.out.sets (b:=w.heap.size + 1 + 1) (by omega) (stA s fv (.slice o1 (s.store.filter (neB x.id)).length c1) (.slice o2 (s.out.filter (neB x.id)).length c2) kv).toList 0))))
     have OAR:=y27h OA.out
     have OTR:=y27h OT.out
     go_wp2_with (first | (refine wpList_load_mid (by rfl) 43 _ (by rfl) w.heap.size 0 (by rfl) (stA s fv (.slice o1 (s.store.filter (neB x.id)).length c1) (.slice o2 (s.out.filter (neB x.id)).length c2) kv).toList _ OAR.out.range Tryz.underlying43 (by rfl) (by kernel_rfl) ?_) | (refine wpList_store_mid (by rfl) 43 _ _ (by rfl) (w.heap.size + 1 + 1) 0 (stA s fv (.slice o1 (s.store.filter (neB x.id)).length c1) (.slice o2 (s.out.filter (neB x.id)).length c2) kv) (by rfl) (by rfl) (OTR.out.there (by rfl)) (by kernel_rfl) (by simp [Value.oneCell',hfv,hkv]) ?_) | fail)
     revert HK
     generalize World.setCells _ _ _ _ = WW
     intro HK
     refine zgr (by rfl) (by rfl) (l:=(stA s fv (.slice o1 (s.store.filter (neB x.id)).length c1) (.slice o2 (s.out.filter (neB x.id)).length c2) kv).toList) HK.out.1.range Tryz.underlying43 (by rfl) (by kernel_rfl) rfl ⟨(.slice o1 (s.store.filter (neB x.id)).length c1),(.slice o2 (s.out.filter (neB x.id)).length c2),rfl,⟨⟨HW.out.lf.later HK.out.2.1 (Nat.le_refl _),by show Row 8 ic _ (zaq s x) _;unfold zaq;rw [if_neg (by rw [ht];simp)];exact HK.out.2.2.1.row,by show Row 8 ic _ (laidOut s x _) _;unfold laidOut;rw [if_neg (by rw [ht];simp),if_neg (by simp)];exact HK.out.2.2.2.row,HW.out.lk.later HK.out.2.1 (Nat.le_refl _)⟩,by show RowF _ _ (zaq s x) _;unfold zaq;rw [if_neg (by rw [ht];simp)];exact HK.out.2.2.1.mono (by omega),by show RowF _ _ (laidOut s x _) _;unfold laidOut;rw [if_neg (by rw [ht];simp),if_neg (by simp)];exact HK.out.2.2.2.mono (by omega)⟩,HK.out.2.1⟩
   · replace fOA:=OA.out.free 7
     go_upto_region 8 with (first | (go_at_call 106;with_reducible refine (P2 _ _ L2.out.row).out.mono ?_;rintro e w4 ⟨v3,rfl,hr,hb⟩;obtain ⟨o3,c3,rfl⟩:=hr.len;have L3:=y27h ((OwnI.rowF hr (fun i hi=>by rcases zex hi with h | h;exact HOK2.out i (List.mem_filter.1 h).1;rw [h];exact hx)).mono (B':=w.heap.size + 1 + 1 + 1) (by have:=OT.out.lt;omega));replace OA:=y27h (OA.out.later hb);replace OX:=y27h (OX.out.later hb);replace OT:=y27h (OT.out.later hb);replace BEL:=y27h (BEL.out.trans (hb.mono BEL.out.size));replace L1:=y27h (L1.out.later hb);replace L2:=y27h (L2.out.later hb);clear hb hr;replace lOA:=OA.out.cell;replace zOA:=OA.out.lt;replace fOA:=OA.out.free 7;replace lOX:=OX.out.cell;replace zOX:=OX.out.lt) | fail)
     have HP:=y27h (show Own (w4.setCell ⟨w.heap.size,7,none⟩ (.slice o3 (putI (s.out.filter (neB x.id)) x).length c3)) w.heap.size (stA s fv (.slice o1 (s.store.filter (neB x.id)).length c1) (.slice o3 (putI (s.out.filter (neB x.id)) x).length c3) kv) 43 ∧ Own (w4.setCell ⟨w.heap.size,7,none⟩ (.slice o3 (putI (s.out.filter (neB x.id)) x).length c3)) (w.heap.size + 1) (iA x) 69 ∧ Own (w4.setCell ⟨w.heap.size,7,none⟩ (.slice o3 (putI (s.out.filter (neB x.id)) x).length c3)) (w.heap.size + 1 + 1) stZ.toArray 43 ∧ Below w.heap.size w (w4.setCell ⟨w.heap.size,7,none⟩ (.slice o3 (putI (s.out.filter (neB x.id)) x).length c3)) ∧ RowF (w4.setCell ⟨w.heap.size,7,none⟩ (.slice o3 (putI (s.out.filter (neB x.id)) x).length c3)) (w.heap.size + 1 + 1 + 1) (s.store.filter (neB x.id)) (.slice o1 (s.store.filter (neB x.id)).length c1) ∧ RowF (w4.setCell ⟨w.heap.size,7,none⟩ (.slice o3 (putI (s.out.filter (neB x.id)) x).length c3)) (w.heap.size + 1 + 1 + 1) (putI (s.out.filter (neB x.id)) x) (.slice o3 (putI (s.out.filter (neB x.id)) x).length c3) from ⟨by rw [← zo6 s fv (.slice o1 (s.store.filter (neB x.id)).length c1) (.slice o2 (s.out.filter (neB x.id)).length c2) kv (.slice o3 (putI (s.out.filter (neB x.id)) x).length c3)];exact OA.out.set 7 _,OX.out.setFar _ _ (by show w.heap.size + 1 ≠ w.heap.size;omega),OT.out.setFar _ _ (by show w.heap.size + 1 + 1 ≠ w.heap.size;omega),BEL.out.setCell (p:=⟨w.heap.size,7,none⟩) (Nat.le_refl _) _,L1.out.set (by omega) _,L3.out.set (by omega) _⟩)
     clear OA OX OT BEL L1 L3 lOA zOA fOA lOX zOX
     revert HP
     generalize w4.setCell ⟨w.heap.size,7,none⟩ (.slice o3 (putI (s.out.filter (neB x.id)) x).length c3) = W4
     intro HP
     obtain ⟨oa_,ox_,ot_,be_,r0_,r1_⟩:=HP.out
     have OA:=y27h oa_
     have OX:=y27h ox_
     have OT:=y27h ot_
     have BEL:=y27h be_
     have L1:=y27h r0_
     have L3:=y27h r1_
     clear oa_ ox_ ot_ be_ r0_ r1_ HP
     clear P1 P2
     have hfv:fv.oneCell' = true:=zar HW.out.lf
     have hkv:kv.oneCell' = true:=by obtain ⟨_,_,e⟩:=HW.out.lk.val;rw [e];rfl
     unfold Value.oneCell' at hfv hkv
     have HK:=y27h (And.intro (OT.out.sets (stA s fv (.slice o1 (s.store.filter (neB x.id)).length c1) (.slice o3 (putI (s.out.filter (neB x.id)) x).length c3) kv).toList (by rfl)) (And.intro (zab (b:=w.heap.size + 1 + 1) (by omega) (stA s fv (.slice o1 (s.store.filter (neB x.id)).length c1) (.slice o3 (putI (s.out.filter (neB x.id)) x).length c3) kv).toList 0 BEL.out) (And.intro (L1.out.sets (b:=w.heap.size + 1 + 1) (by omega) (stA s fv (.slice o1 (s.store.filter (neB x.id)).length c1) (.slice o3 (putI (s.out.filter (neB x.id)) x).length c3) kv).toList 0) (L3.out.sets (b:=w.heap.size + 1 + 1) (by omega) (stA s fv (.slice o1 (s.store.filter (neB x.id)).length c1) (.slice o3 (putI (s.out.filter (neB x.id)) x).length c3) kv).toList 0))))
     have OAR:=y27h OA.out
     have OTR:=y27h OT.out
     go_wp2_with (first | (refine wpList_load_mid (by rfl) 43 _ (by rfl) w.heap.size 0 (by rfl) (stA s fv (.slice o1 (s.store.filter (neB x.id)).length c1) (.slice o3 (putI (s.out.filter (neB x.id)) x).length c3) kv).toList _ OAR.out.range Tryz.underlying43 (by rfl) (by kernel_rfl) ?_) | (refine wpList_store_mid (by rfl) 43 _ _ (by rfl) (w.heap.size + 1 + 1) 0 (stA s fv (.slice o1 (s.store.filter (neB x.id)).length c1) (.slice o3 (putI (s.out.filter (neB x.id)) x).length c3) kv) (by rfl) (by rfl) (OTR.out.there (by rfl)) (by kernel_rfl) (by simp [Value.oneCell',hfv,hkv]) ?_) | fail)
     revert HK
     generalize World.setCells _ _ _ _ = WW
     intro HK
     refine zgr (by rfl) (by rfl) (l:=(stA s fv (.slice o1 (s.store.filter (neB x.id)).length c1) (.slice o3 (putI (s.out.filter (neB x.id)) x).length c3) kv).toList) HK.out.1.range Tryz.underlying43 (by rfl) (by kernel_rfl) rfl ⟨(.slice o1 (s.store.filter (neB x.id)).length c1),(.slice o3 (putI (s.out.filter (neB x.id)) x).length c3),rfl,⟨⟨HW.out.lf.later HK.out.2.1 (Nat.le_refl _),by show Row 8 ic _ (zaq s x) _;unfold zaq;rw [if_neg (by rw [ht];simp)];exact HK.out.2.2.1.row,by show Row 8 ic _ (laidOut s x _) _;unfold laidOut;rw [if_neg (by rw [ht];simp),if_pos rfl];exact HK.out.2.2.2.row,HW.out.lk.later HK.out.2.1 (Nat.le_refl _)⟩,by show RowF _ _ (zaq s x) _;unfold zaq;rw [if_neg (by rw [ht];simp)];exact HK.out.2.2.1.mono (by omega),by show RowF _ _ (laidOut s x _) _;unfold laidOut;rw [if_neg (by rw [ht];simp),if_pos rfl];exact HK.out.2.2.2.mono (by omega)⟩,HK.out.2.1⟩
 case true =>
   go_upto_region 8 with (first | (go_at_call 106;with_reducible refine (P1 _ _ L1.out.row).out.mono ?_;rintro e w4 ⟨v3,rfl,hr,hb⟩;obtain ⟨o3,c3,rfl⟩:=hr.len;have L3:=y27h ((OwnI.rowF hr (fun i hi=>by rcases zex hi with h | h;exact HOK1.out i (List.mem_filter.1 h).1;rw [h];exact hx)).mono (B':=w.heap.size + 1 + 1 + 1) (by have:=OT.out.lt;omega));replace OA:=y27h (OA.out.later hb);replace OX:=y27h (OX.out.later hb);replace OT:=y27h (OT.out.later hb);replace BEL:=y27h (BEL.out.trans (hb.mono BEL.out.size));replace L1:=y27h (L1.out.later hb);replace L2:=y27h (L2.out.later hb);clear hb hr;replace lOA:=OA.out.cell;replace zOA:=OA.out.lt;replace fOA:=OA.out.free 6;replace lOX:=OX.out.cell;replace zOX:=OX.out.lt) | fail)
   have HP:=y27h (show Own (w4.setCell ⟨w.heap.size,6,none⟩ (.slice o3 (putI (s.store.filter (neB x.id)) x).length c3)) w.heap.size (stA s fv (.slice o3 (putI (s.store.filter (neB x.id)) x).length c3) (.slice o2 (s.out.filter (neB x.id)).length c2) kv) 43 ∧ Own (w4.setCell ⟨w.heap.size,6,none⟩ (.slice o3 (putI (s.store.filter (neB x.id)) x).length c3)) (w.heap.size + 1) (iA x) 69 ∧ Own (w4.setCell ⟨w.heap.size,6,none⟩ (.slice o3 (putI (s.store.filter (neB x.id)) x).length c3)) (w.heap.size + 1 + 1) stZ.toArray 43 ∧ Below w.heap.size w (w4.setCell ⟨w.heap.size,6,none⟩ (.slice o3 (putI (s.store.filter (neB x.id)) x).length c3)) ∧ RowF (w4.setCell ⟨w.heap.size,6,none⟩ (.slice o3 (putI (s.store.filter (neB x.id)) x).length c3)) (w.heap.size + 1 + 1 + 1) (s.out.filter (neB x.id)) (.slice o2 (s.out.filter (neB x.id)).length c2) ∧ RowF (w4.setCell ⟨w.heap.size,6,none⟩ (.slice o3 (putI (s.store.filter (neB x.id)) x).length c3)) (w.heap.size + 1 + 1 + 1) (putI (s.store.filter (neB x.id)) x) (.slice o3 (putI (s.store.filter (neB x.id)) x).length c3) from ⟨by rw [← zo5 s fv (.slice o1 (s.store.filter (neB x.id)).length c1) (.slice o2 (s.out.filter (neB x.id)).length c2) kv (.slice o3 (putI (s.store.filter (neB x.id)) x).length c3)];exact OA.out.set 6 _,OX.out.setFar _ _ (by show w.heap.size + 1 ≠ w.heap.size;omega),OT.out.setFar _ _ (by show w.heap.size + 1 + 1 ≠ w.heap.size;omega),BEL.out.setCell (p:=⟨w.heap.size,6,none⟩) (Nat.le_refl _) _,L2.out.set (by omega) _,L3.out.set (by omega) _⟩)
   clear OA OX OT BEL L2 L3 lOA zOA fOA lOX zOX
   revert HP
   generalize w4.setCell ⟨w.heap.size,6,none⟩ (.slice o3 (putI (s.store.filter (neB x.id)) x).length c3) = W4
   intro HP
   obtain ⟨oa_,ox_,ot_,be_,r0_,r1_⟩:=HP.out
   have OA:=y27h oa_
   have OX:=y27h ox_
   have OT:=y27h ot_
   have BEL:=y27h be_
   have L2:=y27h r0_
   have L3:=y27h r1_
   clear oa_ ox_ ot_ be_ r0_ r1_ HP
   clear P1 P2
   have hfv:fv.oneCell' = true:=zar HW.out.lf
   have hkv:kv.oneCell' = true:=by obtain ⟨_,_,e⟩:=HW.out.lk.val;rw [e];rfl
   unfold Value.oneCell' at hfv hkv
   have HK:=y27h (And.intro (OT.out.sets (stA s fv (.slice o3 (putI (s.store.filter (neB x.id)) x).length c3) (.slice o2 (s.out.filter (neB x.id)).length c2) kv).toList (by rfl)) (And.intro (zab (b:=w.heap.size + 1 + 1) (by omega) (stA s fv (.slice o3 (putI (s.store.filter (neB x.id)) x).length c3) (.slice o2 (s.out.filter (neB x.id)).length c2) kv).toList 0 BEL.out) (And.intro (L3.out.sets (b:=w.heap.size + 1 + 1) (by omega) (stA s fv (.slice o3 (putI (s.store.filter (neB x.id)) x).length c3) (.slice o2 (s.out.filter (neB x.id)).length c2) kv).toList 0) (L2.out.sets (b:=w.heap.size + 1 + 1) (by omega) (stA s fv (.slice o3 (putI (s.store.filter (neB x.id)) x).length c3) (.slice o2 (s.out.filter (neB x.id)).length c2) kv).toList 0))))
   have OAR:=y27h OA.out
   have OTR:=y27h OT.out
   go_wp2_with (first | (refine wpList_load_mid (by rfl) 43 _ (by rfl) w.heap.size 0 (by rfl) (stA s fv (.slice o3 (putI (s.store.filter (neB x.id)) x).length c3) (.slice o2 (s.out.filter (neB x.id)).length c2) kv).toList _ OAR.out.range Tryz.underlying43 (by rfl) (by kernel_rfl) ?_) | (refine wpList_store_mid (by rfl) 43 _ _ (by rfl) (w.heap.size + 1 + 1) 0 (stA s fv (.slice o3 (putI (s.store.filter (neB x.id)) x).length c3) (.slice o2 (s.out.filter (neB x.id)).length c2) kv) (by rfl) (by rfl) (OTR.out.there (by rfl)) (by kernel_rfl) (by simp [Value.oneCell',hfv,hkv]) ?_) | fail)
   revert HK
   generalize World.setCells _ _ _ _ = WW
   intro HK
   refine zgr (by rfl) (by rfl) (l:=(stA s fv (.slice o3 (putI (s.store.filter (neB x.id)) x).length c3) (.slice o2 (s.out.filter (neB x.id)).length c2) kv).toList) HK.out.1.range Tryz.underlying43 (by rfl) (by kernel_rfl) rfl ⟨(.slice o3 (putI (s.store.filter (neB x.id)) x).length c3),(.slice o2 (s.out.filter (neB x.id)).length c2),rfl,⟨⟨HW.out.lf.later HK.out.2.1 (Nat.le_refl _),by show Row 8 ic _ (zaq s x) _;unfold zaq;rw [if_pos ht];exact HK.out.2.2.1.row,by show Row 8 ic _ (laidOut s x _) _;unfold laidOut;rw [if_pos ht];exact HK.out.2.2.2.row,HW.out.lk.later HK.out.2.1 (Nat.le_refl _)⟩,by show RowF _ _ (zaq s x) _;unfold zaq;rw [if_pos ht];exact HK.out.2.2.1.mono (by omega),by show RowF _ _ (laidOut s x _) _;unfold laidOut;rw [if_pos ht];exact HK.out.2.2.2.mono (by omega)⟩,HK.out.2.1⟩
end Go.Proofs.YthnllikalobmeaaGreat
