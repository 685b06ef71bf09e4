/- Joined: LocF2, FreB, LocNew, LocG. -/
import Derived.Test.YtodfhabkdaiopaaGreatJ37
import Derived.Laws.EntriesVeiled
import Derived.Test.YtodfhabkdaiopaaGreatJ36
import Derived.Test.YtodfhabkdaiopaaGreatJ17
import Derived.Test.YtodfhabkdaiopaaGreatJ35
namespace Go.Proofs.YtodfhabkdaiopaaGreat
set_option linter.unusedVariables false
set_option linter.unusedSimpArgs false
set_option maxRecDepth 100000
set_option maxHeartbeats 8000000
open Go.RowKit
theorem y38h {p:Prop} (h:p):Go.RowKit.Hid p:=Lib.hid h
theorem z0b {w w8:World} {p:Pr} {o8:Option Addr} {c8:Nat} {Z:Array Value} (OZ:Own w8 (w.heap.size + 1) Z 32) (hZ:Z.size=5) (HL:LPF w8 (w.heap.size + 1 + 1) p (.slice o8 p.kids.length c8)) (BE:Below w.heap.size w w8) :
   Own (w8.setCells (w.heap.size + 1) 0 (pc p (.slice o8 p.kids.length c8))) (w.heap.size + 1) (pc p (.slice o8 p.kids.length c8)).toArray 32∧LPF (w8.setCells (w.heap.size + 1) 0 (pc p (.slice o8 p.kids.length c8))) w.heap.size p (.slice o8 p.kids.length c8)∧Below w.heap.size w (w8.setCells (w.heap.size + 1) 0 (pc p (.slice o8 p.kids.length c8))) :=
 ⟨OZ.sets _ (by rw [hZ];rfl),(HL.setsAt (by omega) _ _).mono' (by omega),zaa (by omega) _ _ BE⟩
theorem zgg (p:Pr) (v:Value) (w:World) (hL:LP w p v) (hsz:p.size≤60000) :
   Calls Tryz.prog 128 #[prV p v] w fun e w'=>e=.returned (.bool true)∧Below w.heap.size w w':=by
 obtain ⟨oa,cap,rfl⟩:=zao hL
 have BE:=y38h ((Below.refl w.heap.size w).alloc (Nat.le_refl _) (.cells #[.int .i64 p.op,.string p.text,.int .i64 p.n,.complex .f64 p.x p.y,.slice oa p.kids.length cap] 32))
 have HL:=y38h hL
 clear hL
 have CL:=fun w' h=>y38h (zna p (.slice oa p.kids.length cap) 65536 w' h (by omega) (by omega))
 have g0:decide ((65536:Int) - (p.size:Int) ≥ 0)=true:=decide_eq_true (by omega)
 have g1:(0:Int)≤65536 - (p.size:Int):=by omega
 generalize (65536:Int) - (p.size:Int)=r at *
 clear hsz
 go_enter Tryz.func128,Tryz.ntmps128
 go_wp2_with (go_at_call 180;(with_reducible refine (CL _ (HL.out.later BE.out (Nat.le_refl _))).out.mono ?_);rintro e w3 ⟨rfl,hb⟩;replace BE:=y38h (BE.out.trans (hb.mono BE.out.size));clear hb)
 go_ret
 exact ⟨rfl,BE.out⟩
theorem zdz (p:Pr) (v:Value) (w:World) (hL:LP w p v) (hsz:p.size≤1000) :
   Calls Tryz.prog 56 #[prV p v] w fun e w'=>∃ v',e=.returned (prV p v')∧LPF w' w.heap.size p v'∧Below w.heap.size w w':=by
 obtain ⟨oa,cap,rfl⟩:=zao hL
 have OP:=y38h ((Own.new w #[.int .i64 p.op,.string p.text,.int .i64 p.n,.complex .f64 p.x p.y,.slice oa p.kids.length cap] 32).alloc (.cells pZ 32))
 have OZ:=y38h (Own.newAt (w.alloc (.cells #[.int .i64 p.op,.string p.text,.int .i64 p.n,.complex .f64 p.x p.y,.slice oa p.kids.length cap] 32)) pZ 32 (b:=w.heap.size + 1) (by simp))
 have BE:=y38h (((Below.refl w.heap.size w).alloc (Nat.le_refl _) (.cells #[.int .i64 p.op,.string p.text,.int .i64 p.n,.complex .f64 p.x p.y,.slice oa p.kids.length cap] 32)).alloc (by simp) (.cells pZ 32))
 have HL:=y38h hL
 clear hL
 have CL:=fun w' h=>y38h (zgg p (.slice oa p.kids.length cap) w' h (by omega))
 have CF:=fun w' h=>y38h (zkp p (.slice oa p.kids.length cap) w' h hsz)
 have lp:=OP.out.cell
 have zp:=OP.out.lt
 clear hsz
 go_enter Tryz.func56,Tryz.ntmps56
 go_wp2_with (first
   | (go_at_call 128;(with_reducible refine (CL _ (HL.out.later BE.out (Nat.le_refl _))).out.mono ?_);rintro e w3 ⟨rfl,hb⟩;clear lp zp;replace OP:=y38h (OP.out.later hb);replace OZ:=y38h (OZ.out.later hb);replace BE:=y38h (BE.out.trans (hb.mono BE.out.size));clear hb;have lp:=OP.out.cell;have zp:=OP.out.lt)
   | (go_at_call 129;(with_reducible refine (CF _ (HL.out.later BE.out (Nat.le_refl _))).out.mono ?_);rintro e w8 ⟨v8,rfl,hL8,hb8⟩;obtain ⟨o8,c8,rfl⟩:=zao hL8.lp;have zz:=OZ.out.lt;have HL8:=y38h (hL8.mono' (B':=w.heap.size + 1 + 1) (by omega));replace OZ:=y38h (OZ.out.later hb8);replace BE:=y38h (BE.out.trans (hb8.mono BE.out.size));clear lp zp zz hL8 hb8 OP;have cz:=OZ.out.cell;have fz:=OZ.out.free;have zz:=OZ.out.lt)
   | fail)
 have KEY:Hid (Own (((((w8.setCell ⟨w.heap.size + 1,0,none⟩ (.int .i64 p.op)).setCell ⟨w.heap.size + 1,1,none⟩ (.string p.text)).setCell ⟨w.heap.size + 1,2,none⟩ (.int .i64 p.n)).setCell ⟨w.heap.size + 1,3,none⟩ (.complex .f64 p.x p.y)).setCell ⟨w.heap.size + 1,4,none⟩ (.slice o8 p.kids.length c8)) (w.heap.size + 1) #[.int .i64 p.op,.string p.text,.int .i64 p.n,.complex .f64 p.x p.y,.slice o8 p.kids.length c8] 32∧LPF (((((w8.setCell ⟨w.heap.size + 1,0,none⟩ (.int .i64 p.op)).setCell ⟨w.heap.size + 1,1,none⟩ (.string p.text)).setCell ⟨w.heap.size + 1,2,none⟩ (.int .i64 p.n)).setCell ⟨w.heap.size + 1,3,none⟩ (.complex .f64 p.x p.y)).setCell ⟨w.heap.size + 1,4,none⟩ (.slice o8 p.kids.length c8)) w.heap.size p (.slice o8 p.kids.length c8)∧Below w.heap.size w (((((w8.setCell ⟨w.heap.size + 1,0,none⟩ (.int .i64 p.op)).setCell ⟨w.heap.size + 1,1,none⟩ (.string p.text)).setCell ⟨w.heap.size + 1,2,none⟩ (.int .i64 p.n)).setCell ⟨w.heap.size + 1,3,none⟩ (.complex .f64 p.x p.y)).setCell ⟨w.heap.size + 1,4,none⟩ (.slice o8 p.kids.length c8))) :=
   y38h (z0b OZ.out rfl HL8.out BE.out)
 clear cz fz zz OZ BE HL8
 revert KEY
 generalize World.setCell (World.setCell (World.setCell (World.setCell (World.setCell _ _ _) _ _) _ _) _ _) _ _=W5
 intro KEY
 have lf:=KEY.out.1.cell
 exact bodyPost_ret (v:=.agg #[.int .i64 p.op,.string p.text,.int .i64 p.n,.complex .f64 p.x p.y,.slice o8 p.kids.length c8]) (by simp [results,Tryz.results56,go_sem,lf]) rfl ⟨_,rfl,KEY.out.2.1,KEY.out.2.2⟩
theorem zlv (r:Int) (f:Pr) (fv:Value) (w:World) (hL:LP w f fv) (hf:f.size≤60) :
   Calls Tryz.prog 11 #[.int .i64 r,prV f fv] w (Told errI f fv zhj (.slice none 0 0) (.slice none 0 0) (.slice none 0 0) (newT r f) (newE r f) w):=by
 obtain ⟨oq,cq,rfl⟩:=zao hL
 have OP:=y38h ((Own.new w #[.int .i64 f.op,.string f.text,.int .i64 f.n,.complex .f64 f.x f.y,.slice oq f.kids.length cq] 32).alloc (.cells stZ.toArray 40))
 have O4:=y38h (Own.newAt (w.alloc (.cells #[.int .i64 f.op,.string f.text,.int .i64 f.n,.complex .f64 f.x f.y,.slice oq f.kids.length cq] 32)) stZ.toArray 40 (b:=w.heap.size + 1) (by simp))
 have BE:=y38h (((Below.refl w.heap.size w).alloc (Nat.le_refl _) (.cells #[.int .i64 f.op,.string f.text,.int .i64 f.n,.complex .f64 f.x f.y,.slice oq f.kids.length cq] 32)).alloc (by simp) (.cells stZ.toArray 40))
 have LF:=y38h ((hL.atAlloc (.cells #[.int .i64 f.op,.string f.text,.int .i64 f.n,.complex .f64 f.x f.y,.slice oq f.kids.length cq] 32)).atAlloc (.cells stZ.toArray 40))
 clear hL
 have W1:=fun w'=>y38h (zkx r 1 8 w')
 have W2:=fun w' h=>y38h (ze1 f (.slice oq f.kids.length cq) w' h)
 have W3:=fun w' h=>y38h (zdz f (.slice oq f.kids.length cq) w' h (by omega))
 have HE:=y38h (show zdd r f=(Pr.mayB f && inB r 1 8) from rfl)
 generalize Pr.mayB f=x1 at *
 generalize inB r 1 8=x2 at *
 have l0:=OP.out.cell
 have z0:=OP.out.lt
 cases x2
 · rw [Bool.and_false] at HE
   have EE:=y38h (show newT r f=zhj∧newE r f=1 from by unfold newT newE;rw [HE.out];exact ⟨rfl,rfl⟩)
   go_enter Tryz.func11,Tryz.ntmps11
   go_wp2_with fail
   refine (W1 _).out.mono ?_
   rintro e w1 ⟨rfl,rfl⟩
   have HK:=y38h (And.intro (O4.out.sets stZ (by rfl)) (zaa (b:=w.heap.size + 1) (Nat.le_succ _) stZ 0 BE.out))
   go_wp2_with (first | (refine wpList_store_mid (by rfl) 40 _ _ (by rfl) (w.heap.size + 1) 0 stZ.toArray (by rfl) (by rfl) (O4.out.there (by rfl)) (by kernel_rfl) (by simp [Value.oneCell']) ?_) | fail)
   revert HK
   generalize World.setCells _ _ _ _=WW
   intro HK
   refine zab (by rfl) (by rfl) (by rfl) HK.out.1.range Tryz.underlying40 (by rfl) (by kernel_rfl) rfl ?_
   rw [EE.out.1,EE.out.2]
   exact ⟨_,_,_,_,rfl,⟨.inr (zgy (by decide)),.inl ⟨rfl,rfl⟩,.inl ⟨rfl,rfl⟩,.inl ⟨rfl,rfl⟩⟩,HK.out.2⟩
 · cases x1
   · rw [Bool.and_true] at HE
     have EE:=y38h (show newT r f=zhj∧newE r f=1 from by unfold newT newE;rw [HE.out];exact ⟨rfl,rfl⟩)
     go_enter Tryz.func11,Tryz.ntmps11
     go_wp2_with fail
     refine (W1 _).out.mono ?_
     rintro e w1 ⟨rfl,rfl⟩
     go_wp2_with fail
     refine (W2 _ LF.out).out.mono ?_
     rintro e w2 ⟨rfl,hb⟩
     clear l0 z0
     replace BE:=y38h (BE.out.trans (hb.mono BE.out.size))
     replace OP:=y38h (OP.out.later hb)
     replace O4:=y38h (O4.out.later hb)
     replace LF:=y38h (LF.out.later hb (Nat.le_refl _))
     clear hb
     have l0:=OP.out.cell
     have z0:=OP.out.lt
     have HK:=y38h (And.intro (O4.out.sets stZ (by rfl)) (zaa (b:=w.heap.size + 1) (Nat.le_succ _) stZ 0 BE.out))
     go_wp2_with (first | (refine wpList_store_mid (by rfl) 40 _ _ (by rfl) (w.heap.size + 1) 0 stZ.toArray (by rfl) (by rfl) (O4.out.there (by rfl)) (by kernel_rfl) (by simp [Value.oneCell']) ?_) | fail)
     revert HK
     generalize World.setCells _ _ _ _=WW
     intro HK
     refine zab (by rfl) (by rfl) (by rfl) HK.out.1.range Tryz.underlying40 (by rfl) (by kernel_rfl) rfl ?_
     rw [EE.out.1,EE.out.2]
     exact ⟨_,_,_,_,rfl,⟨.inr (zgy (by decide)),.inl ⟨rfl,rfl⟩,.inl ⟨rfl,rfl⟩,.inl ⟨rfl,rfl⟩⟩,HK.out.2⟩
   · rw [Bool.and_true] at HE
     have EE:=y38h (show newT r f=newS r f∧newE r f=0 from by unfold newT newE;rw [HE.out];exact ⟨rfl,rfl⟩)
     go_enter Tryz.func11,Tryz.ntmps11
     go_wp2_with fail
     refine (W1 _).out.mono ?_
     rintro e w1 ⟨rfl,rfl⟩
     go_wp2_with fail
     refine (W2 _ LF.out).out.mono ?_
     rintro e w2 ⟨rfl,hb⟩
     clear l0 z0
     replace BE:=y38h (BE.out.trans (hb.mono BE.out.size))
     replace OP:=y38h (OP.out.later hb)
     replace O4:=y38h (O4.out.later hb)
     replace LF:=y38h (LF.out.later hb (Nat.le_refl _))
     clear hb
     have l0:=OP.out.cell
     have z0:=OP.out.lt
     go_wp2_with fail
     refine (W3 _ LF.out).out.mono ?_
     rintro e w3 ⟨v3,rfl,hl,hb⟩
     obtain ⟨o3,c3,rfl⟩:=zao hl.lp
     have L3:=y38h (hl.mono' (B':=w.heap.size + 2) (by have:=O4.out.lt;omega))
     clear l0 z0
     replace BE:=y38h (BE.out.trans (hb.mono BE.out.size))
     replace OP:=y38h (OP.out.later hb)
     replace O4:=y38h (O4.out.later hb)
     replace LF:=y38h (LF.out.later hb (Nat.le_refl _))
     clear hb hl
     have HK:=y38h (And.intro (O4.out.sets (stN r f (.slice o3 f.kids.length c3)) (by rfl)) (zaa (b:=w.heap.size + 1) (Nat.le_succ _) (stN r f (.slice o3 f.kids.length c3)) 0 BE.out))
     have HL:=y38h ((L3.out.setsAt (b:=w.heap.size + 1) (by omega) (stN r f (.slice o3 f.kids.length c3)) 0).mono' (B':=w.heap.size) (by omega))
     go_wp2_with (first | (refine wpList_store_mid (by rfl) 40 _ _ (by rfl) (w.heap.size + 1) 0 (stN r f (.slice o3 f.kids.length c3)).toArray (by rfl) (by rfl) (O4.out.there (by rfl)) (by kernel_rfl) (by simp [Value.oneCell']) ?_) | fail)
     revert HK HL
     generalize World.setCells _ _ _ _=WW
     intro HK HL
     refine zab (by rfl) (by rfl) (by rfl) HK.out.1.range Tryz.underlying40 (by rfl) (by kernel_rfl) rfl ?_
     rw [EE.out.1,EE.out.2]
     exact ⟨_,_,_,_,rfl,⟨.inr HL.out,.inl ⟨rfl,rfl⟩,.inl ⟨rfl,rfl⟩,.inl ⟨rfl,rfl⟩⟩,HK.out.2⟩
theorem zhp {w w':World} {base size n:Nat} {e:TypeId} {v:Value} {xs:List Value} (h:w.ownsRow base e size v n xs) (hb:∀ b,base≤b→b < w.heap.size→w'.heap[b]?=w.heap[b]?):w'.ownsRow base e size v n xs:=by
 obtain ⟨h1,h2⟩:=h
 refine ⟨h1,?_⟩
 rcases h2 with h2 | ⟨g,cap,cur,hv,hg,hh,r⟩
 · exact .inl h2
 · have hlt:g < w.heap.size:=by
     rcases Nat.lt_or_ge g w.heap.size with hlt | hge
     · exact hlt
     · rw [Array.getElem?_eq_none hge] at hh;cases hh
   exact .inr ⟨g,cap,cur,hv,hg,(hb g hg hlt).trans hh,r⟩
theorem zrr {w:World} {B B':Nat} {l:List Fr} {U:Nat→Value} {v:Value} (h:w.ownsRow B 162 9 v l.length (frCs U 0 l)) (hi:∀ i f,l[i]?=some f→OwnT w B' f.ids (U i)) (hB:0 < l.length→B≤B') (hok:∀ f∈l,∀ s∈f.ids,s.size≤maxLen):FrFresh w B l v:=by
 intro w' h1 h2
 refine zse (zhp h h1) fun k f hf=>?_
 have hB':=hB (by have:=posA hf;omega)
 exact (OwnT.tx (zhp (hi k f hf) fun b hb hlt=>h1 b (by omega) hlt) (hok f (List.mem_of_getElem? hf)))
theorem zre {B:Nat} {a b:World} (h:Below B a b) {p:Addr} (hp:p.block < B) (hB:B≤a.heap.size) (u:Value):Below B (a.setCell p u) (b.setCell p u):=by
 refine ⟨h.os,h.tape,h.output,by simpa [World.setCell] using h.size,fun k hk=>?_⟩
 rcases Decidable.em (k=p.block) with e | e
 · subst e
   have hb:=h.block _ hk
   simp only [World.setCell,Array.getElem?_modify,if_true,hb]
 · rw [Below.heap_setCell _ _ _ _ e,Below.heap_setCell _ _ _ _ e]
   exact h.block k hk
theorem FrW.fr_ok {w:World} {l:List Fr} {v:Value} (h:FrW w l v):∀ f∈l,∀ s∈f.ids,s.size≤maxLen:=by
 obtain ⟨U,oa,cap,b,o,_,h⟩:=h
 intro f hf s hs
 obtain ⟨k,hk⟩:=List.getElem?_of_mem hf
 exact (h.ids k f hk).ok s hs
structure AgX (w:World) (s:St) (v3 v4 v5 kv:Value) (X:World):Prop where
 a:Own X w.heap.size (stA s v3 v4 v5 kv) 40
 t:Own X (w.heap.size + 1) stZ.toArray 40
 b:Below w.heap.size w X
 f:LPF X (w.heap.size + 2) s.f v3
 st:RowF X (w.heap.size + 2) s.store v4
 ou:RowF X (w.heap.size + 2) s.out v5
theorem AgX.later {w X X':World} {s:St} {v3 v4 v5 kv:Value} (h:AgX w s v3 v4 v5 kv X) (hb:Below X.heap.size X X'):AgX w s v3 v4 v5 kv X' :=
 ⟨h.a.later hb,h.t.later hb,h.b.trans (hb.mono h.b.size),h.f.later hb,h.st.later hb,h.ou.later hb⟩
theorem LPF.setLow {w:World} {B b q:Nat} {p:Pr} {v:Value} (h:LPF w B p v) (hb:b < B) (u:Value):LPF (w.setCell ⟨b,q,none⟩ u) B p v:=h.setsAt hb [u] q
theorem AgX.setK {w X:World} {s:St} {v3 v4 v5 kv:Value} (h:AgX w s v3 v4 v5 kv X) (kv':Value):AgX w s v3 v4 v5 kv' (X.setCell ⟨w.heap.size,16,none⟩ kv') :=
 ⟨by have:=h.a.set 16 kv';exact this,h.t.setFar _ _ (by show w.heap.size + 1 ≠ w.heap.size;omega),h.b.setCell (p:=⟨w.heap.size,16,none⟩) (Nat.le_refl _) _,h.f.setLow (by omega) _,h.st.set (by omega) _,h.ou.set (by omega) _⟩
theorem Own.thereAt {w:World} {b:Nat} {c:Array Value} {t:TypeId} (h:Own w b c t) (o n:Nat) (hn:o + n≤c.size):w.there b o n:=fun j hj=>by
 rw [h.cell (o + j)]
 exact ⟨by rw [Array.getElem?_eq_getElem (by omega)];rfl,h.free (o + j)⟩
theorem AgX.fin {w wr:World} {s:St} {v3 v4 v5 kv:Value} (h:AgX w s v3 v4 v5 kv wr) (hk:FrFresh wr (w.heap.size + 2) s.k.l kv) (vs:List Value) (hv:vs=(stA s v3 v4 v5 kv).toList) :
   Own (wr.setCells (w.heap.size + 1) 0 vs) (w.heap.size + 1) vs.toArray 40∧LPF (wr.setCells (w.heap.size + 1) 0 vs) w.heap.size s.f v3∧RowF (wr.setCells (w.heap.size + 1) 0 vs) w.heap.size s.store v4∧RowF (wr.setCells (w.heap.size + 1) 0 vs) w.heap.size s.out v5∧FrFresh (wr.setCells (w.heap.size + 1) 0 vs) w.heap.size s.k.l kv∧Below w.heap.size w (wr.setCells (w.heap.size + 1) 0 vs):=by
 have hb:w.heap.size + 1 < w.heap.size + 2:=by omega
 exact ⟨h.t.sets vs (by rw [hv];rfl),(h.f.setsAt hb vs 0).mono' (by omega),(h.st.sets hb vs 0).mono (by omega),(h.ou.sets hb vs 0).mono (by omega),(hk.sets hb vs 0).mono (by omega),zaa (b:=w.heap.size + 1) (by omega) vs 0 h.b⟩
theorem zpz {l:List Fr} {f:Fr} (h:f∈l):f.ids.length≤(zaf l).length:=by
 induction l with
 | nil=>cases h
 | cons a l ih =>
   simp only [zaf,List.flatMap_cons,List.length_append]
   rcases List.mem_cons.1 h with e | h
   · subst e;omega
   · have:=ih h;simp only [zaf] at this;omega
structure AgS (X:World) (B:Nat) (l:List Fr) (U:Nat→Value) (rv:Value) (g k:Nat) (U':Nat→Value) (wr:World):Prop where
 e:X.heap.size=B
 b:Below B X wr
 row:wr.ownsRow B 162 9 rv l.length (frCs U' 0 l)
 done:∀ i f,i < k→l[i]?=some f→OwnT wr (g + 1) f.ids (U' i)
 left:∀ i,k≤i→U' i=U i
theorem z1l {w:World} {B g len c k:Nat} {l:List Fr} {U:Nat→Value} {f:Fr} (h:w.ownsRow B 162 9 (.slice (some ⟨g,0,none⟩) len c) len (frCs U 0 l)) (hlen:l.length=len) (hf:l[k]?=some f):w.cell? ⟨g,k * 9,none⟩=some (U k):=by
 have hk:=posA hf
 have e:=zcz U 0 l k f hf 0 (by omega)
 rw [Nat.add_zero,Nat.zero_add] at e
 rw [h.cellAt (k * 9) (by omega),e]
 rfl
def z0z (X:World) (B:Nat) (l:List Fr) (len:Nat) (U:Nat→Value) (rv:Value) (g:Nat) (i:Value) (wr:World):Prop :=
 ∃ (k:Nat) (U':Nat→Value),k≤len∧i=.int .i64 k∧Hid (AgS X B l U rv g k U' wr)
theorem AgS.step {X wr w8:World} {B:Nat} {l:List Fr} {U U':Nat→Value} {len cap g k:Nat} {f:Fr} {u8:Value} {C:Array Value} {T:TypeId} (h:AgS X B l U (.slice (some ⟨g,0,none⟩) len cap) g k U' wr) (hlen:l.length=len) (hf:l[k]?=some f)
   (hL:OwnT w8 (wr.alloc (.cells C T)).drew.heap.size f.ids u8) (hb:Below (wr.alloc (.cells C T)).drew.heap.size (wr.alloc (.cells C T)).drew w8):AgS X B l U (.slice (some ⟨g,0,none⟩) len cap) g (k + 1) (updU U' k u8) (w8.setCell ⟨g,k * 9,none⟩ u8):=by
 have hk:=posA hf
 have hb':Below wr.heap.size wr w8:=(((Below.refl wr.heap.size wr).alloc (Nat.le_refl _) _).drew).trans (hb.mono (by simp))
 have hg:=h.row.lt g rfl
 have hs:(wr.alloc (.cells C T)).drew.heap.size=wr.heap.size + 1:=by simp
 subst hlen
 refine ⟨h.e,?_,?_,?_,?_⟩
 · exact (h.b.trans (hb'.mono (by have:=h.b.size;have:=h.e;omega))).setCell (p:=⟨g,k * 9,none⟩) hg.1 _
 · have e:=zn7 U' l 0 k f f u8 hf rfl
   rw [Nat.zero_add,zfr hf] at e
   rw [e]
   exact zl6 (zau h.row hb') u8 (by omega)
 · intro i p hi hp
   rcases Decidable.em (i=k) with e | e
   · subst e
     rw [hf] at hp;cases hp
     rw [zck]
     exact ownsRow_setCell_below (a:=⟨g,i * 9,none⟩) ((OwnT.mono hL (by rw [hs];omega:g + 1≤_))) (by show g < g + 1;omega) _
   · rw [zbt _ _ e]
     exact ownsRow_setCell_below (a:=⟨g,k * 9,none⟩) (OwnT.later (h.done i p (by omega) hp) hb') (by show g < g + 1;omega) _
 · intro i hi
   rw [zbt _ _ (by omega)]
   exact h.left i (by omega)
end Go.Proofs.YtodfhabkdaiopaaGreat
