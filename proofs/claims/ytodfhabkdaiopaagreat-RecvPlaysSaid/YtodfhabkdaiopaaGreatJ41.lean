/- Joined: LocVer. -/
import Derived.Test.YtodfhabkdaiopaaGreatJ40
import Derived.Test.YtodfhabkdaiopaaGreatJ36
import Derived.Test.YtodfhabkdaiopaaGreatJ21
import Derived.Test.YtodfhabkdaiopaaGreatJ31
import Derived.Test.YtodfhabkdaiopaaGreatJ23
import Derived.Test.YtodfhabkdaiopaaGreatJ30
import Derived.Test.YtodfhabkdaiopaaGreatJ15
namespace Go.Proofs.YtodfhabkdaiopaaGreat
set_option linter.unusedVariables false
set_option linter.unusedSimpArgs false
set_option maxRecDepth 100000
set_option maxHeartbeats 8000000
open Go.RowKit
abbrev y41a:=@List.getElem_toArray
abbrev y41b:=@List.getElem_cons_zero
abbrev y41c:=@List.getElem_cons_succ
abbrev y41d:=@List.setIfInBounds_toArray
abbrev y41e:=@List.set_cons_zero
abbrev y41f:=@List.set_cons_succ
theorem y41h {p:Prop} (h:p):Go.RowKit.Hid p:=Lib.hid h
structure VeX (w:World) (cA cX:Array Value) (X:World):Prop where
 a:Own X w.heap.size cA 40
 x:Own X (w.heap.size + 1) cX 58
 t:Own X (w.heap.size + 2) stZ.toArray 40
 b:Below w.heap.size w X
section
variable {w X X':World} {cA cX:Array Value}
theorem VeX.later (h:VeX w cA cX X) (hb:Below X.heap.size X X'):VeX w cA cX X':=⟨h.a.later hb,h.x.later hb,h.t.later hb,h.b.trans (hb.mono h.b.size)⟩
theorem VeX.drew (h:VeX w cA cX X):VeX w cA cX X.drew:=⟨h.a.drew,h.x.drew,h.t.drew,h.b.drew⟩
theorem VeX.setA (h:VeX w cA cX X) (q:Nat) (u:Value):VeX w (cA.setIfInBounds q u) cX (X.setCell ⟨w.heap.size,q,none⟩ u) :=
 ⟨h.a.set q u,h.x.setFar _ _ (by show w.heap.size + 1 ≠ w.heap.size;omega),h.t.setFar _ _ (by show w.heap.size + 2 ≠ w.heap.size;omega),h.b.setCell (p:=⟨w.heap.size,q,none⟩) (Nat.le_refl _) _⟩
theorem VeX.setX (h:VeX w cA cX X) (q:Nat) (u:Value):VeX w cA (cX.setIfInBounds q u) (X.setCell ⟨w.heap.size + 1,q,none⟩ u) :=
 ⟨h.a.setFar _ _ (by show w.heap.size ≠ w.heap.size + 1;omega),h.x.set q u,h.t.setFar _ _ (by show w.heap.size + 2 ≠ w.heap.size + 1;omega),h.b.setCell (p:=⟨w.heap.size + 1,q,none⟩) (Nat.le_succ _) _⟩
end
theorem veP {w X:World} {s:St} {fv sv ov kv:Value} {cX:Array Value} (h:VeX w (stA s fv sv ov kv) cX X) (v:Value):VeX w (stA s v sv ov kv) cX (X.setCells w.heap.size 1 [.int .i64 s.f.op,.string s.f.text,.int .i64 s.f.n,.complex .f64 s.f.x s.f.y,v]):=by
 have:=((((h.setA 1 (.int .i64 s.f.op)).setA 2 (.string s.f.text)).setA 3 (.int .i64 s.f.n)).setA 4 (.complex .f64 s.f.x s.f.y)).setA 5 v
 exact this
abbrev knL (A:Nat→Int) (v:Value):List Value:=[.int .i64 (A 0),.int .i64 (A 1),.int .i64 (A 2),.int .i64 (A 3),.int .i64 (A 4),.int .i64 (A 5),.int .i64 (A 6),.int .i64 (A 7),v]
theorem veK {w X:World} {s:St} {fv sv ov kv:Value} {cX:Array Value} (x:Itm) (h:VeX w (stA (cntS s) fv sv ov kv) cX X) (v:Value):VeX w (stA (preS s x) fv sv ov v) cX (X.setCells w.heap.size 8 (knL (ownK s.k x.id s.r (s.count + 1)).star v)):=by
 have h2:=((((((((h.setA 8 (.int .i64 ((ownK s.k x.id s.r (s.count + 1)).star 0))).setA 9 (.int .i64 ((ownK s.k x.id s.r (s.count + 1)).star 1))).setA 10 (.int .i64 ((ownK s.k x.id s.r (s.count + 1)).star 2))).setA 11 (.int .i64 ((ownK s.k x.id s.r (s.count + 1)).star 3))).setA 12 (.int .i64 ((ownK s.k x.id s.r (s.count + 1)).star 4))).setA 13 (.int .i64 ((ownK s.k x.id s.r (s.count + 1)).star 5))).setA 14 (.int .i64 ((ownK s.k x.id s.r (s.count + 1)).star 6))).setA 15 (.int .i64 ((ownK s.k x.id s.r (s.count + 1)).star 7))).setA 16 v
 rw [zpe s fv sv ov kv x v (fun j=>.int .i64 ((ownK s.k x.id s.r (s.count + 1)).star j)) (fun _ _=>rfl)] at h2
 generalize stA (preS s x) fv sv ov v=cA at *
 generalize (ownK s.k x.id s.r (s.count + 1)).star=F at *
 exact h2
def verE (s:St):Int:=if zbi s=true then 5 else 0
def verS (s:St) (x:Itm):St:=if zbi s=true then s else zbb s x
theorem zy1 {s:St} {x:Itm} (h:hasT s.f (zak s x)=true):(zbb s x).store=putI (s.store.filter (neB x.id)) (zak s x)∧(zbb s x).out=s.out.filter (neB x.id):=by
 refine ⟨?_,?_⟩
 · show zam (preS s x) (zak s x)=_
   unfold zam;exact if_pos h
 · show laidOut (preS s x) (zak s x) true=_
   unfold laidOut;exact if_pos h
theorem zy2 {s:St} {x:Itm} (h:hasT s.f (zak s x)=false):(zbb s x).store=s.store.filter (neB x.id)∧(zbb s x).out=putI (s.out.filter (neB x.id)) (zak s x):=by
 have h':¬ hasT (preS s x).f (zak s x)=true:=by show ¬ hasT s.f (zak s x)=true;rw [h];decide
 refine ⟨?_,?_⟩
 · show zam (preS s x) (zak s x)=_
   unfold zam;exact if_neg h'
 · show laidOut (preS s x) (zak s x) true=_
   unfold laidOut;rw [if_neg h',if_pos rfl];rfl
theorem zd4 (s:St) (fv sv ov kv:Value) (x:Itm) (w:World) (hS:StW w s fv sv ov kv) (hG:Good s) (hx:x.id.size≤maxLen∧x.kd.size≤maxLen) (hf:s.f.size≤60)
   (hk1:(zaf (zal s.k x.id s.r (s.count + 1)).l).length≤10000) (hk2:s.k.l.length≤10000) (hk3:(zaf s.k.l).length≤10000) :
   Calls Tryz.prog 150 #[stV s fv sv ov kv,iV x] w (Told errI s.f fv s sv ov kv (verS s x) (verE s) w):=by
 have h1:s.store.length≤1000:=by have:=hG.n;omega
 have h2:s.out.length≤1000:=by have:=hG.n;omega
 have AG:=fun w' h=>y41h (zdf s fv sv ov kv w' h (by omega) h1 h2 hk2 hk3)
 have hc0:=hG.c.1
 have hc1:=hG.c.2
 have ht0:=hG.t.1
 have ht1:=hG.t.2
 obtain ⟨of_,cf,rfl⟩:=zao hS.lf
 obtain ⟨os,cs,rfl⟩:=hS.ls.val
 obtain ⟨oo,co,rfl⟩:=hS.lo.val
 obtain ⟨ok,ck,rfl⟩:=hS.lk.val
 have HW:=y41h hS
 clear hS
 by_cases hfull:s.count=1000 ∨ s.clock=1000000
 · have E:=y41h (show zbi s=true by
     unfold zbi
     rcases hfull with h | h
     · rw [decide_eq_true h];rfl
     · rw [decide_eq_true h];simp)
   have EE:=y41h (show verS s x=s∧verE s=5 from ⟨by unfold verS;rw [if_pos E.out],by unfold verE;rw [if_pos E.out]⟩)
   have hways:(1000≤s.count) ∨ (¬ 1000≤s.count∧1000000≤s.clock):=by omega
   clear hfull hx hf hk1 hk2 hk3 h1 h2 hG hc0 hc1 ht0 ht1
   have OA:=y41h (((Own.new w (stA s (.slice of_ s.f.kids.length cf) (.slice os s.store.length cs) (.slice oo s.out.length co) (.slice ok s.k.l.length ck)) 40).alloc (.cells (iA x) 58)).alloc (.cells stZ.toArray 40))
   have OT:=y41h (Own.newAt ((w.alloc (.cells (stA s (.slice of_ s.f.kids.length cf) (.slice os s.store.length cs) (.slice oo s.out.length co) (.slice ok s.k.l.length ck)) 40)).alloc (.cells (iA x) 58)) stZ.toArray 40 (b:=w.heap.size + 1 + 1) (by simp))
   have BE:=y41h ((((Below.refl w.heap.size w).alloc (Nat.le_refl _) (.cells (stA s (.slice of_ s.f.kids.length cf) (.slice os s.store.length cs) (.slice oo s.out.length co) (.slice ok s.k.l.length ck)) 40)).alloc (by simp) (.cells (iA x) 58)).alloc (by simp;omega) (.cells stZ.toArray 40))
   have l0:=OA.out.cell
   have z0:=OA.out.lt
   rcases hways with g1 | ⟨g1,g2⟩
   all_goals
     go_enter Tryz.func150,Tryz.ntmps150
     go_wp2_with (first | (refine wpList_load_mid (by rfl) 40 _ (by rfl) w.heap.size 0 (by rfl) ((stA s (.slice of_ s.f.kids.length cf) (.slice os s.store.length cs) (.slice oo s.out.length co) (.slice ok s.k.l.length ck))).toList _ OA.out.range Tryz.underlying40 (by rfl) (by kernel_rfl) ?_) | fail)
     refine (AG _ (HW.out.later BE.out)).out.mono ?_
     rintro e w3 ⟨v3,v4,v5,v6,rfl,hl,hr4,hr5,hk,hb⟩
     obtain ⟨o3,c3,rfl⟩:=zao hl.lp
     obtain ⟨o4,c4,rfl⟩:=hr4.row.val
     obtain ⟨o5,c5,rfl⟩:=hr5.row.val
     obtain ⟨o6,c6,rfl⟩:=hk.fr.val
     have zw:=OT.out.lt
     clear l0 z0
     replace BE:=y41h (BE.out.trans (hb.mono BE.out.size))
     replace OT:=y41h (OT.out.later hb)
     have HK:=y41h (And.intro (OT.out.sets (stA s (.slice o3 s.f.kids.length c3) (.slice o4 s.store.length c4) (.slice o5 s.out.length c5) (.slice o6 s.k.l.length c6)).toList (by rfl)) (And.intro (zaa (b:=w.heap.size + 1 + 1) (by omega) (stA s (.slice o3 s.f.kids.length c3) (.slice o4 s.store.length c4) (.slice o5 s.out.length c5) (.slice o6 s.k.l.length c6)).toList 0 BE.out) (And.intro (hl.setsAt (b:=w.heap.size + 1 + 1) zw (stA s (.slice o3 s.f.kids.length c3) (.slice o4 s.store.length c4) (.slice o5 s.out.length c5) (.slice o6 s.k.l.length c6)).toList 0) (And.intro (hr4.sets (b:=w.heap.size + 1 + 1) zw (stA s (.slice o3 s.f.kids.length c3) (.slice o4 s.store.length c4) (.slice o5 s.out.length c5) (.slice o6 s.k.l.length c6)).toList 0) (And.intro (hr5.sets (b:=w.heap.size + 1 + 1) zw (stA s (.slice o3 s.f.kids.length c3) (.slice o4 s.store.length c4) (.slice o5 s.out.length c5) (.slice o6 s.k.l.length c6)).toList 0) (hk.sets (b:=w.heap.size + 1 + 1) zw (stA s (.slice o3 s.f.kids.length c3) (.slice o4 s.store.length c4) (.slice o5 s.out.length c5) (.slice o6 s.k.l.length c6)).toList 0))))))
     clear hl hr4 hr5 hk hb
     go_wp2_with (first | (refine wpList_store_mid (by rfl) 40 _ _ (by rfl) (w.heap.size + 1 + 1) 0 (stA s (.slice o3 s.f.kids.length c3) (.slice o4 s.store.length c4) (.slice o5 s.out.length c5) (.slice o6 s.k.l.length c6)) (by rfl) (by rfl) (OT.out.there (by rfl)) (by kernel_rfl) (by simp [Value.oneCell']) ?_) | fail)
     have zw':w.heap.size≤w.heap.size + 3:=by omega
     have hBB:((w.alloc (.cells (stA s (.slice of_ s.f.kids.length cf) (.slice os s.store.length cs) (.slice oo s.out.length co) (.slice ok s.k.l.length ck)) 40)).alloc (.cells (iA x) 58)).heap.size=w.heap.size + 2:=by simp
     revert HK
     generalize World.setCells _ _ _ _=WW
     intro HK
     refine zab (by rfl) (by rfl) (by rfl) HK.out.1.range Tryz.underlying40 (by rfl) (by kernel_rfl) rfl ?_
     rw [EE.out.1,EE.out.2]
     exact ⟨_,_,_,_,rfl,⟨.inr (HK.out.2.2.1.mono' (by simp;omega)),.inr (HK.out.2.2.2.1.mono (by simp;omega)),.inr (HK.out.2.2.2.2.1.mono (by simp;omega)),.inr (HK.out.2.2.2.2.2.mono (by simp;omega))⟩,HK.out.2.1⟩
 · have E:=y41h (show zbi s=false by
     unfold zbi
     rw [decide_eq_false (fun h=>hfull (.inl h)),decide_eq_false (fun h=>hfull (.inr h))];rfl)
   have EE:=y41h (show verS s x=zbb s x∧verE s=0 from ⟨by unfold verS;rw [if_neg (by simp [E.out])],by unfold verE;rw [if_neg (by simp [E.out])]⟩)
   have g1:¬ 1000≤s.count:=by omega
   have g2:¬ 1000000≤s.clock:=by omega
   have hmay:=hG.f
   have CF:=fun w' h=>y41h (zdz s.f (.slice of_ s.f.kids.length cf) w' h (by omega))
   have CO:=fun w' h=>y41h (zm4 s.k x.id s.r (s.count + 1) (.slice ok s.k.l.length ck) w' h hx.1 hk1 hk2 hk3 (by omega))
   have D1:=fun w' h=>y41h (zcu s.store x.id (.slice os s.store.length cs) w' h hG.rs h1 hx.1)
   have D2:=fun w' h=>y41h (zcu s.out x.id (.slice oo s.out.length co) w' h hG.ro h2 hx.1)
   have P1:=fun v w' h=>y41h (zen (s.store.filter (neB x.id)) (zak s x) v w' h (zbg hG.rs) (Nat.le_trans (List.length_filter_le _ _) h1) hx)
   have P2:=fun v w' h=>y41h (zen (s.out.filter (neB x.id)) (zak s x) v w' h (zbg hG.ro) (Nat.le_trans (List.length_filter_le _ _) h2) hx)
   have CM:=fun v w' h=>y41h (hmay ▸ ze1 s.f v w' h)
   have CH:=fun v w' h=>y41h (zku (zak s x) s.f v w' h hx.1)
   have HOS:=y41h (zlx (m:=s.store.filter (neB x.id)) HW.out.ls.oks fun i hi=>(List.mem_filter.1 hi).1)
   have HOO:=y41h (zlx (m:=s.out.filter (neB x.id)) HW.out.lo.oks fun i hi=>(List.mem_filter.1 hi).1)
   have HX:=y41h hx
   have MS:=y41h (zy1 (s:=s) (x:=x))
   have MO:=y41h (zy2 (s:=s) (x:=x))
   clear AG hfull hx hf hk1 hk2 hk3 h1 h2 hG hmay
   have V:Hid (VeX w (stA (cntS s) (.slice of_ s.f.kids.length cf) (.slice os s.store.length cs) (.slice oo s.out.length co) (.slice ok s.k.l.length ck)) (iA x) (((w.alloc (.cells (stA (cntS s) (.slice of_ s.f.kids.length cf) (.slice os s.store.length cs) (.slice oo s.out.length co) (.slice ok s.k.l.length ck)) 40)).alloc (.cells (iA x) 58)).alloc (.cells stZ.toArray 40))):=y41h ⟨((Own.new w (stA (cntS s) (.slice of_ s.f.kids.length cf) (.slice os s.store.length cs) (.slice oo s.out.length co) (.slice ok s.k.l.length ck)) 40).alloc (.cells (iA x) 58)).alloc (.cells stZ.toArray 40),(Own.newAt (w.alloc (.cells (stA (cntS s) (.slice of_ s.f.kids.length cf) (.slice os s.store.length cs) (.slice oo s.out.length co) (.slice ok s.k.l.length ck)) 40)) (iA x) 58 (b:=w.heap.size + 1) (by simp)).alloc (.cells stZ.toArray 40),Own.newAt ((w.alloc (.cells (stA (cntS s) (.slice of_ s.f.kids.length cf) (.slice os s.store.length cs) (.slice oo s.out.length co) (.slice ok s.k.l.length ck)) 40)).alloc (.cells (iA x) 58)) stZ.toArray 40 (b:=w.heap.size + 2) (by simp),(((Below.refl w.heap.size w).alloc (Nat.le_refl _) (.cells (stA (cntS s) (.slice of_ s.f.kids.length cf) (.slice os s.store.length cs) (.slice oo s.out.length co) (.slice ok s.k.l.length ck)) 40)).alloc (by simp) (.cells (iA x) 58)).alloc (by simp;omega) (.cells stZ.toArray 40)⟩
   go_enter Tryz.func150,Tryz.ntmps150
   go_upto_region 5 with fail
   revert V
   generalize World.alloc (World.alloc (World.alloc _ _) _) _=W5
   intro V
   replace V:=y41h V.out.drew
   refine zdx (S:=(fun _=>True)) (T:=(fun w'=>∀ o,w'.cell? ⟨w.heap.size,o,none⟩=(stA (cntS s) (.slice of_ s.f.kids.length cf) (.slice os s.store.length cs) (.slice oo s.out.length co) (.slice ok s.k.l.length ck))[o]?)) (D:=(fun _=>true)) (by kernel_rfl) (trivial) (by exact V.out.a.cell) (fun hHeld hStay=>?_)
   refine zaj (i:=0) (v:=?_) rfl (by kernel_rfl) (by kernel_rfl) (by kernel_rfl) (fun _ _ _ h=>h) (Or.inl ⟨by rfl,?_⟩) hStay ?_
   rotate_left 1
   · (intro w hSw;(try dsimp only at hSw);go_simp;try with_reducible rfl)
   try simp only [Act.put,y41a,y41b,y41c,y41d,y41e,y41f]
   refine zaj (i:=1) (v:=?_) rfl (by kernel_rfl) (by kernel_rfl) (by kernel_rfl) (fun _ _ _ h=>h) (Or.inl ⟨by rfl,?_⟩) hStay ?_
   rotate_left 1
   · (intro w hSw;(try dsimp only at hSw);go_simp;try with_reducible rfl)
   try simp only [Act.put,y41a,y41b,y41c,y41d,y41e,y41f]
   refine zaj (i:=2) (v:=?_) rfl (by kernel_rfl) (by kernel_rfl) (by kernel_rfl) (fun _ _ _ h=>h) (Or.inl ⟨by rfl,?_⟩) hStay ?_
   rotate_left 1
   · (intro w hSw;(try dsimp only at hSw);go_simp;try with_reducible rfl)
   try simp only [Act.put,y41a,y41b,y41c,y41d,y41e,y41f]
   refine zaj (i:=3) (v:=?_) rfl (by kernel_rfl) (by kernel_rfl) (by kernel_rfl) (fun _ _ _ h=>h) (Or.inl ⟨by rfl,?_⟩) hStay ?_
   rotate_left 1
   · (intro w hSw;(try dsimp only at hSw);go_simp;try with_reducible rfl)
   try simp only [Act.put,y41a,y41b,y41c,y41d,y41e,y41f]
   refine zaj (i:=4) (v:=?_) rfl (by kernel_rfl) (by kernel_rfl) (by kernel_rfl) (fun _ _ _ h=>h) (Or.inl ⟨by rfl,?_⟩) hStay ?_
   rotate_left 1
   · (intro w hSw;(try dsimp only at hSw);go_simp;try with_reducible rfl)
   try simp only [Act.put,y41a,y41b,y41c,y41d,y41e,y41f]
   refine zaj (i:=5) (v:=?_) rfl (by kernel_rfl) (by kernel_rfl) (by kernel_rfl) (fun _ _ _ h=>h) (Or.inl ⟨by rfl,?_⟩) hStay ?_
   rotate_left 1
   · (intro w hSw;(try dsimp only at hSw);go_simp;try with_reducible rfl)
   try simp only [Act.put,y41a,y41b,y41c,y41d,y41e,y41f]
   refine zaj (i:=6) (v:=?_) rfl (by kernel_rfl) (by kernel_rfl) (by kernel_rfl) (fun _ _ _ h=>h) (Or.inl ⟨by rfl,?_⟩) hStay ?_
   rotate_left 1
   · (intro w hSw;(try dsimp only at hSw);go_simp;try with_reducible rfl)
   try simp only [Act.put,y41a,y41b,y41c,y41d,y41e,y41f]
   refine zaj (i:=7) (v:=?_) rfl (by kernel_rfl) (by kernel_rfl) (by kernel_rfl) (fun _ _ _ h=>h) (Or.inl ⟨by rfl,?_⟩) hStay ?_
   rotate_left 1
   · (intro w hSw;(try dsimp only at hSw);go_simp;try with_reducible rfl)
   try simp only [Act.put,y41a,y41b,y41c,y41d,y41e,y41f]
   have V8:Hid (VeX w (stA (cntS s) (.slice of_ s.f.kids.length cf) (.slice os s.store.length cs) (.slice oo s.out.length co) (.slice ok s.k.l.length ck)) (((iA x).setIfInBounds 1 (.int .i64 s.r)).setIfInBounds 2 (.int .i64 (s.count + 1))) (W5.drew.setCells (w.heap.size + 1) 1 [.int .i64 s.r,.int .i64 (s.count + 1)])):=y41h ((V.out.setX 1 (.int .i64 s.r)).setX 2 (.int .i64 (s.count + 1)))
   refine za7 (i:=8) (by kernel_rfl) rfl (fun K hK=>?_)
   try simp only [y41a,y41b,y41c]
   first | rw [if_pos (by rfl)] | skip
   refine wp_store_mid 52 _ _ rfl (w.heap.size + 1) 1 #[.int .i64 s.r,.int .i64 (s.count + 1)] (by rfl) (by rfl) (V.out.x.thereAt 1 2 (by simp)) (by kernel_rfl) (by simp [Value.oneCell']) ?_
   refine hK.out _ _ (fun h=>by cases h) (by exact V8.out.a.cell) (fun _ hStay'=>?_)
   replace hStay:=hStay'
   clear hK K hStay'
   try simp only [Act.put,y41a,y41b,y41c,y41d,y41e,y41f]
   have l8:=V8.out.x.cell
   have f8:=V8.out.x.free
   have z8:=V8.out.x.lt
   refine zaj (i:=9) (v:=?_) rfl (by kernel_rfl) (by kernel_rfl) (by kernel_rfl) (fun _ _ _ h=>h) (Or.inl ⟨by rfl,?_⟩) hStay ?_
   rotate_left 1
   · (intro w hSw;(try dsimp only at hSw);go_simp;try with_reducible rfl)
   try simp only [Act.put,y41a,y41b,y41c,y41d,y41e,y41f]
   have V9:Hid (VeX w (stA (cntS s) (.slice of_ s.f.kids.length cf) (.slice os s.store.length cs) (.slice oo s.out.length co) (.slice ok s.k.l.length ck)) (iA (zak s x)) _):=y41h (V8.out.setX 3 (.int .i64 (s.clock + 1)))
   refine za7 (i:=10) (by kernel_rfl) rfl (fun K hK=>?_)
   try simp only [y41a,y41b,y41c]
   first | rw [if_pos (by rfl)] | skip
   go_simp
   refine hK.out _ _ (fun h=>by cases h) (by exact V9.out.a.cell) (fun _ hStay'=>?_)
   replace hStay:=hStay'
   clear hK K hStay'
   try simp only [Act.put,y41a,y41b,y41c,y41d,y41e,y41f]
   refine zef (by kernel_rfl) ?_ _
   clear l8 f8 z8 V V8 hHeld hStay
   revert V9
   generalize World.setCell _ _ _=X9
   intro V
   replace V:=y41h V.out
   go_upto_region 6 with fail
   replace V:=y41h V.out.drew
   refine zdx (S:=(fun w'=>∀ o,w'.cell? ⟨w.heap.size,o,none⟩=(stA (cntS s) (.slice of_ s.f.kids.length cf) (.slice os s.store.length cs) (.slice oo s.out.length co) (.slice ok s.k.l.length ck))[o]?)) (T:=(fun w'=>∀ o,w'.cell? ⟨w.heap.size + 1,o,none⟩=(iA (zak s x))[o]?)) (D:=(fun j=>j == 11 || j == 13)) (by kernel_rfl) (by exact V.out.a.cell) (by exact V.out.x.cell) (fun hHeld hStay=>?_)
   refine zaj (i:=0) (v:=?_) rfl (by kernel_rfl) (by kernel_rfl) (by kernel_rfl) (fun _ _ _ h=>h) (Or.inl ⟨by rfl,?_⟩) hStay ?_
   rotate_left 1
   · (intro w hSw;(try dsimp only at hSw);go_simp;try with_reducible rfl)
   try simp only [Act.put,y41a,y41b,y41c,y41d,y41e,y41f]
   refine zeg (i:=1) (v:=?_) rfl (by kernel_rfl) (by kernel_rfl) (by kernel_rfl) (by kernel_rfl) (fun _ _ _ h=>h) (Or.inl ⟨by rfl,?_⟩) hHeld ?_
   rotate_left 1
   · (intro w hSw;(try dsimp only at hSw);go_simp;try with_reducible rfl)
   try simp only [Act.put,y41a,y41b,y41c,y41d,y41e,y41f]
   refine zaj (i:=3) (v:=?_) rfl (by kernel_rfl) (by kernel_rfl) (by kernel_rfl) (fun _ _ _ h=>h) (Or.inl ⟨by rfl,?_⟩) hStay ?_
   rotate_left 1
   · (intro w hSw;(try dsimp only at hSw);go_simp;try with_reducible rfl)
   try simp only [Act.put,y41a,y41b,y41c,y41d,y41e,y41f]
   refine zeg (i:=4) (v:=?_) rfl (by kernel_rfl) (by kernel_rfl) (by kernel_rfl) (by kernel_rfl) (fun _ _ _ h=>h) (Or.inl ⟨by rfl,?_⟩) hHeld ?_
   rotate_left 1
   · (intro w hSw;(try dsimp only at hSw);go_simp;try with_reducible rfl)
   try simp only [Act.put,y41a,y41b,y41c,y41d,y41e,y41f]
   refine zaj (i:=5) (v:=?_) rfl (by kernel_rfl) (by kernel_rfl) (by kernel_rfl) (fun _ _ _ h=>h) (Or.inl ⟨by rfl,?_⟩) hStay ?_
   rotate_left 1
   · (intro w hSw;(try dsimp only at hSw);go_simp;try with_reducible rfl)
   try simp only [Act.put,y41a,y41b,y41c,y41d,y41e,y41f]
   refine zaj (i:=6) (v:=?_) rfl (by kernel_rfl) (by kernel_rfl) (by kernel_rfl) (fun _ _ _ h=>h) (Or.inl ⟨by rfl,?_⟩) hStay ?_
   rotate_left 1
   · (intro w hSw;(try dsimp only at hSw);go_simp;try with_reducible rfl)
   try simp only [Act.put,y41a,y41b,y41c,y41d,y41e,y41f]
   refine zaj (i:=7) (v:=?_) rfl (by kernel_rfl) (by kernel_rfl) (by kernel_rfl) (fun _ _ _ h=>h) (Or.inl ⟨by rfl,?_⟩) hStay ?_
   rotate_left 1
   · (intro w hSw;(try dsimp only at hSw);go_simp;try with_reducible rfl)
   try simp only [Act.put,y41a,y41b,y41c,y41d,y41e,y41f]
   refine zaj (i:=8) (v:=?_) rfl (by kernel_rfl) (by kernel_rfl) (by kernel_rfl) (fun _ _ _ h=>h) (Or.inl ⟨by rfl,?_⟩) hStay ?_
   rotate_left 1
   · (intro w hSw;(try dsimp only at hSw);go_simp;try with_reducible rfl)
   try simp only [Act.put,y41a,y41b,y41c,y41d,y41e,y41f]
   refine za7 (i:=2) (by kernel_rfl) rfl (fun K hK=>?_)
   try simp only [y41a,y41b,y41c]
   (go_simp;go_at_call 56;refine (CF _ (HW.out.lf.later V.out.b (Nat.le_refl _))).out.mono ?_;rintro e w3 ⟨v3,rfl,hl3,hb⟩;obtain ⟨o3,c3,rfl⟩:=zao hl3.lp;have L3:=y41h (hl3.mono' (B':=w.heap.size + 3) (by have:=V.out.t.lt;omega));replace V:=y41h (V.out.later hb);clear hl3 hb)
   try go_wp2_with fail
   refine hK.out _ _ (fun _=>by exact V.out.a.cell) (by exact V.out.x.cell) (fun hHeld' hStay'=>?_)
   replace hHeld:=hHeld' (by rfl)
   replace hStay:=hStay'
   clear hK K hHeld' hStay'
   try simp only [Act.put,y41a,y41b,y41c,y41d,y41e,y41f]
   refine zaj (i:=10) (v:=?_) rfl (by kernel_rfl) (by kernel_rfl) (by kernel_rfl) (fun _ _ _ h=>h) (Or.inl ⟨by rfl,?_⟩) hStay ?_
   rotate_left 1
   · (intro w hSw;(try dsimp only at hSw);go_simp;try with_reducible rfl)
   try simp only [Act.put,y41a,y41b,y41c,y41d,y41e,y41f]
   refine za7 (i:=9) (by kernel_rfl) rfl (fun K hK=>?_)
   try simp only [y41a,y41b,y41c]
   (go_simp;go_at_call 207;refine (CO _ (HW.out.lk.later V.out.b (Nat.le_refl _))).out.mono ?_;rintro e w4 ⟨v4,rfl,hfr,hb⟩;obtain ⟨o4,c4,rfl⟩:=hfr.fr.val;have F4:=y41h (hfr.mono (B':=w.heap.size + 3) (by have:=V.out.t.lt;omega));replace L3:=y41h (L3.out.later hb);replace V:=y41h (V.out.later hb);clear hfr hb;generalize (zah (ownK s.k x.id s.r (s.count + 1))).l.length=n4 at *)
   try go_wp2_with fail
   refine hK.out _ _ (fun _=>by exact V.out.a.cell) (by exact V.out.x.cell) (fun hHeld' hStay'=>?_)
   replace hHeld:=hHeld' (by rfl)
   replace hStay:=hStay'
   clear hK K hHeld' hStay'
   try simp only [Act.put,y41a,y41b,y41c,y41d,y41e,y41f]
   have V11:=y41h (veP V.out (.slice o3 s.f.kids.length c3))
   refine za7 (i:=11) (by kernel_rfl) rfl (fun K hK=>?_)
   try simp only [y41a,y41b,y41c]
   first | rw [if_pos (by rfl)] | skip
   refine wp_store_mid 32 _ _ rfl w.heap.size 1 #[.int .i64 s.f.op,.string s.f.text,.int .i64 s.f.n,.complex .f64 s.f.x s.f.y,(.slice o3 s.f.kids.length c3)] (by rfl) (by rfl) (V.out.a.thereAt 1 5 (by simp)) (by kernel_rfl) (by simp [Value.oneCell']) ?_
   refine hK.out _ _ (fun h=>by cases h) (by exact V11.out.x.cell) (fun _ hStay'=>?_)
   replace hStay:=hStay'
   clear hK K hStay'
   try simp only [Act.put,y41a,y41b,y41c,y41d,y41e,y41f]
   refine zaj (i:=12) (v:=?_) rfl (by kernel_rfl) (by kernel_rfl) (by kernel_rfl) (fun _ _ _ h=>h) (Or.inl ⟨by rfl,?_⟩) hStay ?_
   rotate_left 1
   · (intro w hSw;(try dsimp only at hSw);go_simp;try with_reducible rfl)
   try simp only [Act.put,y41a,y41b,y41c,y41d,y41e,y41f]
   have V13:=y41h (And.intro (veK x V11.out (.slice o4 n4 c4)) (And.intro ((L3.out.setsAt (b:=w.heap.size) (by omega) [.int .i64 s.f.op,.string s.f.text,.int .i64 s.f.n,.complex .f64 s.f.x s.f.y,(.slice o3 s.f.kids.length c3)] 1).setsAt (b:=w.heap.size) (by omega) (knL (ownK s.k x.id s.r (s.count + 1)).star (.slice o4 n4 c4)) 8) (FrFresh.sets (b:=w.heap.size) (by omega) (knL (ownK s.k x.id s.r (s.count + 1)).star (.slice o4 n4 c4)) 8 (FrFresh.sets (b:=w.heap.size) (by omega) [.int .i64 s.f.op,.string s.f.text,.int .i64 s.f.n,.complex .f64 s.f.x s.f.y,(.slice o3 s.f.kids.length c3)] 1 F4.out))))
   refine za7 (i:=13) (by kernel_rfl) rfl (fun K hK=>?_)
   try simp only [y41a,y41b,y41c]
   first | rw [if_pos (by rfl)] | skip
   refine wp_store_mid 38 _ _ rfl w.heap.size 8 (knL (ownK s.k x.id s.r (s.count + 1)).star (.slice o4 n4 c4)).toArray (by rfl) (by rfl) (V11.out.a.thereAt 8 9 (by simp)) (by kernel_rfl) (by simp [Value.oneCell']) ?_
   refine hK.out _ _ (fun h=>by cases h) (by exact V13.out.1.x.cell) (fun _ hStay'=>?_)
   replace hStay:=hStay'
   clear hK K hStay'
   try simp only [Act.put,y41a,y41b,y41c,y41d,y41e,y41f]
   refine zef (by kernel_rfl) ?_ _
   clear V V11 L3 F4 hHeld hStay CF CO
   revert V13
   generalize World.setCells (World.setCells _ _ _ _) _ _ _=X6
   intro V13
   have V:=y41h V13.out.1
   have L3:=y41h V13.out.2.1
   have F4:=y41h V13.out.2.2
   clear V13
   go_upto_region 7 with fail
   replace V:=y41h V.out.drew
   replace L3:=y41h (L3.out.later (Below.refl _ _).drew)
   replace F4:=y41h (F4.out.stays (Below.refl _ _).drew)
   refine zdx (S:=(fun w'=>∀ o,w'.cell? ⟨w.heap.size,o,none⟩=(stA (preS s x) (.slice o3 s.f.kids.length c3) (.slice os s.store.length cs) (.slice oo s.out.length co) (.slice o4 n4 c4))[o]?)) (T:=(fun w'=>∀ o,w'.cell? ⟨w.heap.size + 1,o,none⟩=(iA (zak s x))[o]?)) (D:=(fun j=>j == 11 || j == 13)) (by kernel_rfl) (by exact V.out.a.cell) (by exact V.out.x.cell) (fun hHeld hStay=>?_)
   refine zaj (i:=0) (v:=?_) rfl (by kernel_rfl) (by kernel_rfl) (by kernel_rfl) (fun _ _ _ h=>h) (Or.inl ⟨by rfl,?_⟩) hStay ?_
   rotate_left 1
   · (intro w hSw;(try dsimp only at hSw);go_simp;try with_reducible rfl)
   try simp only [Act.put,y41a,y41b,y41c,y41d,y41e,y41f]
   refine zeg (i:=1) (v:=?_) rfl (by kernel_rfl) (by kernel_rfl) (by kernel_rfl) (by kernel_rfl) (fun _ _ _ h=>h) (Or.inl ⟨by rfl,?_⟩) hHeld ?_
   rotate_left 1
   · (intro w hSw;(try dsimp only at hSw);go_simp;try with_reducible rfl)
   try simp only [Act.put,y41a,y41b,y41c,y41d,y41e,y41f]
   refine zaj (i:=2) (v:=?_) rfl (by kernel_rfl) (by kernel_rfl) (by kernel_rfl) (fun _ _ _ h=>h) (Or.inl ⟨by rfl,?_⟩) hStay ?_
   rotate_left 1
   · (intro w hSw;(try dsimp only at hSw);go_simp;try with_reducible rfl)
   try simp only [Act.put,y41a,y41b,y41c,y41d,y41e,y41f]
   refine zaj (i:=3) (v:=?_) rfl (by kernel_rfl) (by kernel_rfl) (by kernel_rfl) (fun _ _ _ h=>h) (Or.inl ⟨by rfl,?_⟩) hStay ?_
   rotate_left 1
   · (intro w hSw;(try dsimp only at hSw);go_simp;try with_reducible rfl)
   try simp only [Act.put,y41a,y41b,y41c,y41d,y41e,y41f]
   refine zaj (i:=5) (v:=?_) rfl (by kernel_rfl) (by kernel_rfl) (by kernel_rfl) (fun _ _ _ h=>h) (Or.inl ⟨by rfl,?_⟩) hStay ?_
   rotate_left 1
   · (intro w hSw;(try dsimp only at hSw);go_simp;try with_reducible rfl)
   try simp only [Act.put,y41a,y41b,y41c,y41d,y41e,y41f]
   refine zeg (i:=6) (v:=?_) rfl (by kernel_rfl) (by kernel_rfl) (by kernel_rfl) (by kernel_rfl) (fun _ _ _ h=>h) (Or.inl ⟨by rfl,?_⟩) hHeld ?_
   rotate_left 1
   · (intro w hSw;(try dsimp only at hSw);go_simp;try with_reducible rfl)
   try simp only [Act.put,y41a,y41b,y41c,y41d,y41e,y41f]
   refine zaj (i:=7) (v:=?_) rfl (by kernel_rfl) (by kernel_rfl) (by kernel_rfl) (fun _ _ _ h=>h) (Or.inl ⟨by rfl,?_⟩) hStay ?_
   rotate_left 1
   · (intro w hSw;(try dsimp only at hSw);go_simp;try with_reducible rfl)
   try simp only [Act.put,y41a,y41b,y41c,y41d,y41e,y41f]
   refine zaj (i:=8) (v:=?_) rfl (by kernel_rfl) (by kernel_rfl) (by kernel_rfl) (fun _ _ _ h=>h) (Or.inl ⟨by rfl,?_⟩) hStay ?_
   rotate_left 1
   · (intro w hSw;(try dsimp only at hSw);go_simp;try with_reducible rfl)
   try simp only [Act.put,y41a,y41b,y41c,y41d,y41e,y41f]
   refine za7 (i:=4) (by kernel_rfl) rfl (fun K hK=>?_)
   try simp only [y41a,y41b,y41c]
   (go_simp;go_at_call 65;refine (D1 _ (HW.out.ls.later V.out.b)).out.mono ?_;rintro e w5 ⟨v5,rfl,ho5,hb⟩;obtain ⟨o5,c5,rfl⟩:=ho5.len;have R5:=y41h ((OwnI.rowF ho5 HOS.out).mono (B':=w.heap.size + 3) (by have:=V.out.t.lt;omega));replace L3:=y41h (L3.out.later hb);replace F4:=y41h (F4.out.stays hb);replace V:=y41h (V.out.later hb);clear ho5 hb)
   try go_wp2_with fail
   refine hK.out _ _ (fun _=>by exact V.out.a.cell) (by exact V.out.x.cell) (fun hHeld' hStay'=>?_)
   replace hHeld:=hHeld' (by rfl)
   replace hStay:=hStay'
   clear hK K hHeld' hStay'
   try simp only [Act.put,y41a,y41b,y41c,y41d,y41e,y41f]
   refine zaj (i:=10) (v:=?_) rfl (by kernel_rfl) (by kernel_rfl) (by kernel_rfl) (fun _ _ _ h=>h) (Or.inl ⟨by rfl,?_⟩) hStay ?_
   rotate_left 1
   · (intro w hSw;(try dsimp only at hSw);go_simp;try with_reducible rfl)
   try simp only [Act.put,y41a,y41b,y41c,y41d,y41e,y41f]
   refine za7 (i:=9) (by kernel_rfl) rfl (fun K hK=>?_)
   try simp only [y41a,y41b,y41c]
   (go_simp;go_at_call 65;refine (D2 _ (HW.out.lo.later V.out.b)).out.mono ?_;rintro e w6 ⟨v6,rfl,ho6,hb⟩;obtain ⟨o6,c6,rfl⟩:=ho6.len;have R6:=y41h ((OwnI.rowF ho6 HOO.out).mono (B':=w.heap.size + 3) (by have:=V.out.t.lt;omega));replace R5:=y41h (R5.out.later hb);replace L3:=y41h (L3.out.later hb);replace F4:=y41h (F4.out.stays hb);replace V:=y41h (V.out.later hb);clear ho6 hb)
   try go_wp2_with fail
   refine hK.out _ _ (fun _=>by exact V.out.a.cell) (by exact V.out.x.cell) (fun hHeld' hStay'=>?_)
   replace hHeld:=hHeld' (by rfl)
   replace hStay:=hStay'
   clear hK K hHeld' hStay'
   try simp only [Act.put,y41a,y41b,y41c,y41d,y41e,y41f]
   have V11:=y41h (V.out.setA 6 (.slice o5 (s.store.filter (neB x.id)).length c5))
   have l1:=V.out.a.cell
   have f1:=V.out.a.free
   have z1:=V.out.a.lt
   refine za7 (i:=11) (by kernel_rfl) rfl (fun K hK=>?_)
   try simp only [y41a,y41b,y41c]
   first | rw [if_pos (by rfl)] | skip
   go_simp
   refine hK.out _ _ (fun h=>by cases h) (by exact V11.out.x.cell) (fun _ hStay'=>?_)
   replace hStay:=hStay'
   clear hK K hStay'
   try simp only [Act.put,y41a,y41b,y41c,y41d,y41e,y41f]
   refine zaj (i:=12) (v:=?_) rfl (by kernel_rfl) (by kernel_rfl) (by kernel_rfl) (fun _ _ _ h=>h) (Or.inl ⟨by rfl,?_⟩) hStay ?_
   rotate_left 1
   · (intro w hSw;(try dsimp only at hSw);go_simp;try with_reducible rfl)
   try simp only [Act.put,y41a,y41b,y41c,y41d,y41e,y41f]
   clear l1 f1 z1
   have l1:=V11.out.a.cell
   have f1:=V11.out.a.free
   have z1:=V11.out.a.lt
   have hB3:w.heap.size < w.heap.size + 3:=by omega
   have V13:Hid (VeX w (stA (preS s x) (.slice o3 s.f.kids.length c3) (.slice o5 (s.store.filter (neB x.id)).length c5) (.slice o6 (s.out.filter (neB x.id)).length c6) (.slice o4 n4 c4)) (iA (zak s x)) ((w6.setCell ⟨w.heap.size,6,none⟩ (.slice o5 (s.store.filter (neB x.id)).length c5)).setCell ⟨w.heap.size,7,none⟩ (.slice o6 (s.out.filter (neB x.id)).length c6))∧LPF ((w6.setCell ⟨w.heap.size,6,none⟩ (.slice o5 (s.store.filter (neB x.id)).length c5)).setCell ⟨w.heap.size,7,none⟩ (.slice o6 (s.out.filter (neB x.id)).length c6)) (w.heap.size + 3) s.f (.slice o3 s.f.kids.length c3)∧FrFresh ((w6.setCell ⟨w.heap.size,6,none⟩ (.slice o5 (s.store.filter (neB x.id)).length c5)).setCell ⟨w.heap.size,7,none⟩ (.slice o6 (s.out.filter (neB x.id)).length c6)) (w.heap.size + 3) (zah (ownK s.k x.id s.r (s.count + 1))).l (.slice o4 n4 c4)∧RowF ((w6.setCell ⟨w.heap.size,6,none⟩ (.slice o5 (s.store.filter (neB x.id)).length c5)).setCell ⟨w.heap.size,7,none⟩ (.slice o6 (s.out.filter (neB x.id)).length c6)) (w.heap.size + 3) (s.store.filter (neB x.id)) (.slice o5 (s.store.filter (neB x.id)).length c5)∧RowF ((w6.setCell ⟨w.heap.size,6,none⟩ (.slice o5 (s.store.filter (neB x.id)).length c5)).setCell ⟨w.heap.size,7,none⟩ (.slice o6 (s.out.filter (neB x.id)).length c6)) (w.heap.size + 3) (s.out.filter (neB x.id)) (.slice o6 (s.out.filter (neB x.id)).length c6)):=y41h ⟨V11.out.setA 7 (.slice o6 (s.out.filter (neB x.id)).length c6),(L3.out.setLow hB3 _).setLow hB3 _,(F4.out.setLow (a:=⟨w.heap.size,6,none⟩) hB3 _).setLow (a:=⟨w.heap.size,7,none⟩) hB3 _,(R5.out.set hB3 _).set hB3 _,(R6.out.set hB3 _).set hB3 _⟩
   refine za7 (i:=13) (by kernel_rfl) rfl (fun K hK=>?_)
   try simp only [y41a,y41b,y41c]
   first | rw [if_pos (by rfl)] | skip
   go_simp
   refine hK.out _ _ (fun h=>by cases h) (by exact V13.out.1.x.cell) (fun _ hStay'=>?_)
   replace hStay:=hStay'
   clear hK K hStay'
   try simp only [Act.put,y41a,y41b,y41c,y41d,y41e,y41f]
   refine zef (by kernel_rfl) ?_ _
   clear V V11 L3 F4 R5 R6 l1 f1 z1 hHeld hStay D1 D2 hB3
   revert V13
   generalize World.setCell (World.setCell _ _ _) _ _=X7
   intro V13
   have V:=y41h V13.out.1
   have L3:=y41h V13.out.2.1
   have F4:=y41h V13.out.2.2.1
   have R5:=y41h V13.out.2.2.2.1
   have R6:=y41h V13.out.2.2.2.2
   clear V13
   have l0:=V.out.a.cell
   have z0:=V.out.a.lt
   have f0:=V.out.a.free
   have l1:=V.out.x.cell
   have z1:=V.out.x.lt
   go_wp2_with fail
   refine (CM _ _ L3.out.lp).out.mono ?_
   rintro e w7 ⟨rfl,hb⟩
   replace L3:=y41h (L3.out.later hb)
   replace F4:=y41h (F4.out.stays hb)
   replace R5:=y41h (R5.out.later hb)
   replace R6:=y41h (R6.out.later hb)
   replace V:=y41h (V.out.later hb)
   clear hb
   replace l0:=V.out.a.cell
   replace z0:=V.out.a.lt
   replace f0:=V.out.a.free
   replace l1:=V.out.x.cell
   replace z1:=V.out.x.lt
   go_wp2_with fail
   refine (CH _ _ L3.out.lp).out.mono ?_
   rintro e w8 ⟨rfl,hb⟩
   replace L3:=y41h (L3.out.later hb)
   replace F4:=y41h (F4.out.stays hb)
   replace R5:=y41h (R5.out.later hb)
   replace R6:=y41h (R6.out.later hb)
   replace V:=y41h (V.out.later hb)
   clear hb
   replace l0:=V.out.a.cell
   replace z0:=V.out.a.lt
   replace f0:=V.out.a.free
   replace l1:=V.out.x.cell
   replace z1:=V.out.x.lt
   clear CM CH HW
   cases ht:hasT s.f (zak s x)
   case false =>
     have ME:=y41h (MO.out ht)
     go_wp2_with fail
     refine (P2 _ _ R6.out.row).out.mono ?_
     rintro e w9 ⟨v9,rfl,ho9,hb⟩
     obtain ⟨o9,c9,rfl⟩:=ho9.len
     have R9:=y41h ((OwnI.rowF ho9 (fun i hi=>by
       rcases mem_put.1 hi with e | ⟨e,_⟩
       · rw [e];exact HX.out
       · exact HOO.out i e)).mono (B':=w.heap.size + 3) (by have:=V.out.t.lt;omega))
     replace L3:=y41h (L3.out.later hb)
     replace F4:=y41h (F4.out.stays hb)
     replace R5:=y41h (R5.out.later hb)
     replace R6:=y41h (R6.out.later hb)
     replace V:=y41h (V.out.later hb)
     clear hb ho9
     replace l0:=V.out.a.cell
     replace z0:=V.out.a.lt
     replace f0:=V.out.a.free
     replace l1:=V.out.x.cell
     replace z1:=V.out.x.lt
     have hB3:w.heap.size < w.heap.size + 3:=by omega
     have hB4:w.heap.size + 2 < w.heap.size + 3:=by omega
     have V13:Hid (VeX w (stA (preS s x) (.slice o3 s.f.kids.length c3) (.slice o5 (s.store.filter (neB x.id)).length c5) (.slice o9 (putI (s.out.filter (neB x.id)) (zak s x)).length c9) (.slice o4 n4 c4)) (iA (zak s x)) (w9.setCell ⟨w.heap.size,7,none⟩ (.slice o9 (putI (s.out.filter (neB x.id)) (zak s x)).length c9))∧LPF (w9.setCell ⟨w.heap.size,7,none⟩ (.slice o9 (putI (s.out.filter (neB x.id)) (zak s x)).length c9)) (w.heap.size + 3) s.f (.slice o3 s.f.kids.length c3)∧FrFresh (w9.setCell ⟨w.heap.size,7,none⟩ (.slice o9 (putI (s.out.filter (neB x.id)) (zak s x)).length c9)) (w.heap.size + 3) (zah (ownK s.k x.id s.r (s.count + 1))).l (.slice o4 n4 c4)∧RowF (w9.setCell ⟨w.heap.size,7,none⟩ (.slice o9 (putI (s.out.filter (neB x.id)) (zak s x)).length c9)) (w.heap.size + 3) (s.store.filter (neB x.id)) (.slice o5 (s.store.filter (neB x.id)).length c5)∧RowF (w9.setCell ⟨w.heap.size,7,none⟩ (.slice o9 (putI (s.out.filter (neB x.id)) (zak s x)).length c9)) (w.heap.size + 3) (putI (s.out.filter (neB x.id)) (zak s x)) (.slice o9 (putI (s.out.filter (neB x.id)) (zak s x)).length c9)):=y41h ⟨V.out.setA 7 (.slice o9 (putI (s.out.filter (neB x.id)) (zak s x)).length c9),L3.out.setLow hB3 _,F4.out.setLow (a:=⟨w.heap.size,7,none⟩) hB3 _,R5.out.set hB3 _,R9.out.set hB3 _⟩
     go_upto_region 11 with fail
     clear l0 z0 f0 l1 z1 V L3 F4 R5 R6 R9
     revert V13
     generalize World.setCell _ _ _=X8
     intro V13
     have OAR:=y41h V13.out.1.a
     have OTR:=y41h V13.out.1.t
     have HK:=y41h (And.intro (V13.out.1.t.sets (stA (preS s x) (.slice o3 s.f.kids.length c3) (.slice o5 (s.store.filter (neB x.id)).length c5) (.slice o9 (putI (s.out.filter (neB x.id)) (zak s x)).length c9) (.slice o4 n4 c4)).toList (by rfl)) (And.intro (zaa (b:=w.heap.size + 2) (by omega) (stA (preS s x) (.slice o3 s.f.kids.length c3) (.slice o5 (s.store.filter (neB x.id)).length c5) (.slice o9 (putI (s.out.filter (neB x.id)) (zak s x)).length c9) (.slice o4 n4 c4)).toList 0 V13.out.1.b) (And.intro (V13.out.2.1.setsAt hB4 (stA (preS s x) (.slice o3 s.f.kids.length c3) (.slice o5 (s.store.filter (neB x.id)).length c5) (.slice o9 (putI (s.out.filter (neB x.id)) (zak s x)).length c9) (.slice o4 n4 c4)).toList 0) (And.intro (FrFresh.sets hB4 (stA (preS s x) (.slice o3 s.f.kids.length c3) (.slice o5 (s.store.filter (neB x.id)).length c5) (.slice o9 (putI (s.out.filter (neB x.id)) (zak s x)).length c9) (.slice o4 n4 c4)).toList 0 V13.out.2.2.1) (And.intro (RowF.sets hB4 (stA (preS s x) (.slice o3 s.f.kids.length c3) (.slice o5 (s.store.filter (neB x.id)).length c5) (.slice o9 (putI (s.out.filter (neB x.id)) (zak s x)).length c9) (.slice o4 n4 c4)).toList 0 V13.out.2.2.2.1) (RowF.sets hB4 (stA (preS s x) (.slice o3 s.f.kids.length c3) (.slice o5 (s.store.filter (neB x.id)).length c5) (.slice o9 (putI (s.out.filter (neB x.id)) (zak s x)).length c9) (.slice o4 n4 c4)).toList 0 V13.out.2.2.2.2))))))
     clear V13
     go_wp2_with (first | (refine wpList_load_mid (by rfl) 40 _ (by rfl) w.heap.size 0 (by rfl) (stA (preS s x) (.slice o3 s.f.kids.length c3) (.slice o5 (s.store.filter (neB x.id)).length c5) (.slice o9 (putI (s.out.filter (neB x.id)) (zak s x)).length c9) (.slice o4 n4 c4)).toList _ OAR.out.range Tryz.underlying40 (by rfl) (by kernel_rfl) ?_) | (refine wpList_store_mid (by rfl) 40 _ _ (by rfl) (w.heap.size + 2) 0 (stA (preS s x) (.slice o3 s.f.kids.length c3) (.slice o5 (s.store.filter (neB x.id)).length c5) (.slice o9 (putI (s.out.filter (neB x.id)) (zak s x)).length c9) (.slice o4 n4 c4)) (by rfl) (by rfl) (OTR.out.there (by rfl)) (by kernel_rfl) (by simp [Value.oneCell']) ?_) | fail)
     revert HK
     generalize World.setCells _ _ _ _=WW
     intro HK
     refine zab (by rfl) (by rfl) (by rfl) HK.out.1.range Tryz.underlying40 (by rfl) (by kernel_rfl) rfl ?_
     rw [EE.out.1,EE.out.2]
     have hB5:w.heap.size≤w.heap.size + 3:=by omega
     refine ⟨_,_,_,_,rfl,⟨.inr (HK.out.2.2.1.mono' hB5),.inr ?_,.inr ?_,.inr (HK.out.2.2.2.1.mono hB5)⟩,HK.out.2.1⟩
     · rw [ME.out.1];exact HK.out.2.2.2.2.1.mono hB5
     · rw [ME.out.2];exact HK.out.2.2.2.2.2.mono hB5
   case true =>
     have ME:=y41h (MS.out ht)
     go_wp2_with fail
     refine (P1 _ _ R5.out.row).out.mono ?_
     rintro e w9 ⟨v9,rfl,ho9,hb⟩
     obtain ⟨o9,c9,rfl⟩:=ho9.len
     have R9:=y41h ((OwnI.rowF ho9 (fun i hi=>by
       rcases mem_put.1 hi with e | ⟨e,_⟩
       · rw [e];exact HX.out
       · exact HOS.out i e)).mono (B':=w.heap.size + 3) (by have:=V.out.t.lt;omega))
     replace L3:=y41h (L3.out.later hb)
     replace F4:=y41h (F4.out.stays hb)
     replace R5:=y41h (R5.out.later hb)
     replace R6:=y41h (R6.out.later hb)
     replace V:=y41h (V.out.later hb)
     clear hb ho9
     replace l0:=V.out.a.cell
     replace z0:=V.out.a.lt
     replace f0:=V.out.a.free
     replace l1:=V.out.x.cell
     replace z1:=V.out.x.lt
     have hB3:w.heap.size < w.heap.size + 3:=by omega
     have hB4:w.heap.size + 2 < w.heap.size + 3:=by omega
     have V13:Hid (VeX w (stA (preS s x) (.slice o3 s.f.kids.length c3) (.slice o9 (putI (s.store.filter (neB x.id)) (zak s x)).length c9) (.slice o6 (s.out.filter (neB x.id)).length c6) (.slice o4 n4 c4)) (iA (zak s x)) (w9.setCell ⟨w.heap.size,6,none⟩ (.slice o9 (putI (s.store.filter (neB x.id)) (zak s x)).length c9))∧LPF (w9.setCell ⟨w.heap.size,6,none⟩ (.slice o9 (putI (s.store.filter (neB x.id)) (zak s x)).length c9)) (w.heap.size + 3) s.f (.slice o3 s.f.kids.length c3)∧FrFresh (w9.setCell ⟨w.heap.size,6,none⟩ (.slice o9 (putI (s.store.filter (neB x.id)) (zak s x)).length c9)) (w.heap.size + 3) (zah (ownK s.k x.id s.r (s.count + 1))).l (.slice o4 n4 c4)∧RowF (w9.setCell ⟨w.heap.size,6,none⟩ (.slice o9 (putI (s.store.filter (neB x.id)) (zak s x)).length c9)) (w.heap.size + 3) (s.out.filter (neB x.id)) (.slice o6 (s.out.filter (neB x.id)).length c6)∧RowF (w9.setCell ⟨w.heap.size,6,none⟩ (.slice o9 (putI (s.store.filter (neB x.id)) (zak s x)).length c9)) (w.heap.size + 3) (putI (s.store.filter (neB x.id)) (zak s x)) (.slice o9 (putI (s.store.filter (neB x.id)) (zak s x)).length c9)):=y41h ⟨V.out.setA 6 (.slice o9 (putI (s.store.filter (neB x.id)) (zak s x)).length c9),L3.out.setLow hB3 _,F4.out.setLow (a:=⟨w.heap.size,6,none⟩) hB3 _,R6.out.set hB3 _,R9.out.set hB3 _⟩
     go_upto_region 11 with fail
     clear l0 z0 f0 l1 z1 V L3 F4 R5 R6 R9
     revert V13
     generalize World.setCell _ _ _=X8
     intro V13
     have OAR:=y41h V13.out.1.a
     have OTR:=y41h V13.out.1.t
     have HK:=y41h (And.intro (V13.out.1.t.sets (stA (preS s x) (.slice o3 s.f.kids.length c3) (.slice o9 (putI (s.store.filter (neB x.id)) (zak s x)).length c9) (.slice o6 (s.out.filter (neB x.id)).length c6) (.slice o4 n4 c4)).toList (by rfl)) (And.intro (zaa (b:=w.heap.size + 2) (by omega) (stA (preS s x) (.slice o3 s.f.kids.length c3) (.slice o9 (putI (s.store.filter (neB x.id)) (zak s x)).length c9) (.slice o6 (s.out.filter (neB x.id)).length c6) (.slice o4 n4 c4)).toList 0 V13.out.1.b) (And.intro (V13.out.2.1.setsAt hB4 (stA (preS s x) (.slice o3 s.f.kids.length c3) (.slice o9 (putI (s.store.filter (neB x.id)) (zak s x)).length c9) (.slice o6 (s.out.filter (neB x.id)).length c6) (.slice o4 n4 c4)).toList 0) (And.intro (FrFresh.sets hB4 (stA (preS s x) (.slice o3 s.f.kids.length c3) (.slice o9 (putI (s.store.filter (neB x.id)) (zak s x)).length c9) (.slice o6 (s.out.filter (neB x.id)).length c6) (.slice o4 n4 c4)).toList 0 V13.out.2.2.1) (And.intro (RowF.sets hB4 (stA (preS s x) (.slice o3 s.f.kids.length c3) (.slice o9 (putI (s.store.filter (neB x.id)) (zak s x)).length c9) (.slice o6 (s.out.filter (neB x.id)).length c6) (.slice o4 n4 c4)).toList 0 V13.out.2.2.2.1) (RowF.sets hB4 (stA (preS s x) (.slice o3 s.f.kids.length c3) (.slice o9 (putI (s.store.filter (neB x.id)) (zak s x)).length c9) (.slice o6 (s.out.filter (neB x.id)).length c6) (.slice o4 n4 c4)).toList 0 V13.out.2.2.2.2))))))
     clear V13
     go_wp2_with (first | (refine wpList_load_mid (by rfl) 40 _ (by rfl) w.heap.size 0 (by rfl) (stA (preS s x) (.slice o3 s.f.kids.length c3) (.slice o9 (putI (s.store.filter (neB x.id)) (zak s x)).length c9) (.slice o6 (s.out.filter (neB x.id)).length c6) (.slice o4 n4 c4)).toList _ OAR.out.range Tryz.underlying40 (by rfl) (by kernel_rfl) ?_) | (refine wpList_store_mid (by rfl) 40 _ _ (by rfl) (w.heap.size + 2) 0 (stA (preS s x) (.slice o3 s.f.kids.length c3) (.slice o9 (putI (s.store.filter (neB x.id)) (zak s x)).length c9) (.slice o6 (s.out.filter (neB x.id)).length c6) (.slice o4 n4 c4)) (by rfl) (by rfl) (OTR.out.there (by rfl)) (by kernel_rfl) (by simp [Value.oneCell']) ?_) | fail)
     revert HK
     generalize World.setCells _ _ _ _=WW
     intro HK
     refine zab (by rfl) (by rfl) (by rfl) HK.out.1.range Tryz.underlying40 (by rfl) (by kernel_rfl) rfl ?_
     rw [EE.out.1,EE.out.2]
     have hB5:w.heap.size≤w.heap.size + 3:=by omega
     refine ⟨_,_,_,_,rfl,⟨.inr (HK.out.2.2.1.mono' hB5),.inr ?_,.inr ?_,.inr (HK.out.2.2.2.1.mono hB5)⟩,HK.out.2.1⟩
     · rw [ME.out.1];exact HK.out.2.2.2.2.2.mono hB5
     · rw [ME.out.2];exact HK.out.2.2.2.2.1.mono hB5
end Go.Proofs.YtodfhabkdaiopaaGreat
