/- Joined: LocT, LocalB, LocWant, LocM2. -/
import Derived.Test.YtodfhabkdaiopaaGreatJ33
import Derived.Test.YtodfhabkdaiopaaGreatJ32
import Derived.Test.YtodfhabkdaiopaaGreatJ34
import Derived.Test.YtodfhabkdaiopaaGreatJ35
import Derived.Test.YtodfhabkdaiopaaGreatJ28
import Derived.Test.YtodfhabkdaiopaaGreatJ26
import Derived.Test.YtodfhabkdaiopaaGreatJ29
import Derived.Test.YtodfhabkdaiopaaGreatJ18
import Derived.Test.YtodfhabkdaiopaaGreatJ30
import Derived.Test.YtodfhabkdaiopaaGreatJ31
import Derived.Test.YtodfhabkdaiopaaGreatJ15
namespace Go.Proofs.YtodfhabkdaiopaaGreat
set_option linter.unusedVariables false
set_option linter.unusedSimpArgs false
set_option maxRecDepth 100000
set_option maxHeartbeats 8000000
open Go.RowKit
abbrev y36a:=@List.getElem_toArray
abbrev y36b:=@List.getElem_cons_zero
abbrev y36c:=@List.getElem_cons_succ
abbrev y36d:=@List.setIfInBounds_toArray
abbrev y36e:=@List.set_cons_zero
abbrev y36f:=@List.set_cons_succ
theorem y36h {p:Prop} (h:p):Go.RowKit.Hid p:=Lib.hid h
def errI (n:Int):Value:=errV n.toNat
def newE (r:Int) (f:Pr):Int:=if zdd r f=true then 0 else 1
def newT (r:Int) (f:Pr):St:=if zdd r f=true then newS r f else zhj
theorem zr9 (s:St) (fv sv ov kv:Value) (id kd:ByteArray) (num:Int) (px py:Nat) (w:World) (hS:StW w s fv sv ov kv) (hG:Good s) (hB:StB s) (hid:id.size≤maxLen) (hkd:kd.size≤maxLen) :
   Calls Tryz.prog 78 #[stV s fv sv ov kv,.string id,.string kd,.int .i64 num,.complex .f64 px py] w (Told numI s.f fv s sv ov kv (creS s (itS id kd num px py)) (creE s (itS id kd num px py)) w):=by
 have h1:=hB.f
 have h2:=hB.ls
 have h3:=hB.lo
 have h4:=hB.kl
 have h5:=hB.ki
 refine (zk8 s fv sv ov kv id kd num px py w hS hid hkd (by omega) (by omega) (by omega) (by rw [zbk];omega) (by omega) (by omega) hG.c hG.t).mono ?_
 rintro e w' ⟨sv',ov',kv',he,_,hx,hb⟩
 exact ⟨fv,sv',ov',kv',he,hx.n,hb⟩
theorem zsc (s:St) (fv sv ov kv:Value) (id kd:ByteArray) (num:Int) (px py:Nat) (w:World) (hS:StW w s fv sv ov kv) (hG:Good s) (hB:StB s) (hid:id.size≤maxLen) (hkd:kd.size≤maxLen) :
   Calls Tryz.prog 79 #[stV s fv sv ov kv,.string id,.string kd,.int .i64 num,.complex .f64 px py] w (Told numI s.f fv s sv ov kv (updS s (itS id kd num px py)) (updE s (itS id kd num px py)) w):=by
 have h1:=hB.f
 have h2:=hB.ls
 have h3:=hB.lo
 have h4:=hB.kl
 have h5:=hB.ki
 refine (zlb s fv sv ov kv id kd num px py w hS hid hkd (by omega) (by omega) (by omega) (by rw [zbk];omega) (by omega) (by omega) hG.c hG.t).mono ?_
 rintro e w' ⟨sv',ov',kv',he,_,hx,hb⟩
 exact ⟨fv,sv',ov',kv',he,hx.n,hb⟩
theorem zsa (s:St) (fv sv ov kv:Value) (id:ByteArray) (w:World) (hS:StW w s fv sv ov kv) (hG:Good s) (hB:StB s) (hid:id.size≤maxLen) :
   Calls Tryz.prog 80 #[stV s fv sv ov kv,.string id] w (Told numI s.f fv s sv ov kv (delS s id) (delE s id) w):=by
 have h1:=hB.f
 have h2:=hB.ls
 have h3:=hB.lo
 have h4:=hB.kl
 have h5:=hB.ki
 refine (zk9 s fv sv ov kv id w hS hid (by omega) (by omega) (by omega) (by rw [zbk];omega) (by omega) (by omega) hG.c hG.t).mono ?_
 rintro e w' ⟨sv',ov',kv',he,_,hx,hb⟩
 exact ⟨fv,sv',ov',kv',he,hx.n,hb⟩
theorem zsb (s:St) (fv sv ov kv:Value) (f:Pr) (gv:Value) (w:World) (hS:StW w s fv sv ov kv) (hG:Good s) (hB:StB s) (hL:LP w f gv) (hf:f.size≤60) :
   Calls Tryz.prog 81 #[stV s fv sv ov kv,prV f gv] w (zxv numI s.f fv f gv s sv ov kv (filS s f) (filE s f) w):=by
 have h2:=hB.ls
 have h3:=hB.lo
 refine (zla s fv sv ov kv f gv w hS hL (by omega) (by omega) (by omega) hG.e).mono ?_
 rintro e w' ⟨fv',sv',ov',kv',he,hx,hb⟩
 rcases hx with hx | hx
 · exact .inl ⟨fv',sv',ov',kv',he,hx,hb⟩
 · exact .inr ⟨fv',sv',ov',kv',he,hx,hb⟩
def doE (s:St) (d:De):Int:=if za4 d.what=0 then creE s (itS d.id d.kd d.num d.x d.y) else if za4 d.what=1 then updE s (itS d.id d.kd d.num d.x d.y) else if za4 d.what=2 then delE s d.id else filE s d.f
def doS (s:St) (d:De):St:=if za4 d.what=0 then creS s (itS d.id d.kd d.num d.x d.y) else if za4 d.what=1 then updS s (itS d.id d.kd d.num d.x d.y) else if za4 d.what=2 then delS s d.id else filS s d.f
theorem zyj (s:St) (x:Itm):0≤creE s x∧creE s x≤10:=by unfold creE;(repeat' split) <;> decide
theorem zzg (s:St) (x:Itm):0≤updE s x∧updE s x≤10:=by unfold updE;(repeat' split) <;> decide
theorem zyk (s:St) (id:ByteArray):0≤delE s id∧delE s id≤10:=by unfold delE;(repeat' split) <;> decide
theorem zyp (s:St) (f:Pr):0≤filE s f∧filE s f≤10:=by unfold filE;(repeat' split) <;> decide
theorem zdg {E:Int} (h:0≤E∧E≤10) (w:World):Calls Tryz.prog 14 #[errI E] w fun e w'=>e=.returned (.int .i64 E)∧w=w':=by
 have:=zrj E.toNat (by omega) w
 rw [show ((E.toNat:Nat):Int)=E by omega] at this
 exact this
theorem zi5 {w2 w3:World} {s U:St} {fv sv ov kv v2 fv' sv' ov' kv':Value} {f:Pr} {B:Nat} (h:StN w3 w2.heap.size s.f fv s.store sv s.out ov s.k.l kv U fv' sv' ov' kv' ∨ StN w3 w2.heap.size f v2 s.store sv s.out ov s.k.l kv U fv' sv' ov' kv') (hF:LPF w2 B f v2) (hB:B≤w2.heap.size) (hb3:Below w2.heap.size w2 w3):StN w3 B s.f fv s.store sv s.out ov s.k.l kv U fv' sv' ov' kv':=by
 rcases h with h | h
 · exact h.mono hB
 · obtain ⟨h1,h2,h3,h4⟩:=h.mono hB
   refine ⟨.inr ?_,h2,h3,h4⟩
   rcases h1 with ⟨e,rfl⟩ | h1
   · rw [e];exact hF.later hb3
   · exact h1
theorem zqg (s:St) (fv sv ov kv:Value) (d:De) (gv:Value) (w:World) (hS:StW w s fv sv ov kv) (hD:DeW w d gv) (hG:Good s) (hB:StB s) (hsz:d.f.size≤60) :
   Calls Tryz.prog 23 #[stV s fv sv ov kv,deV d gv] w fun e w'=>∃ fv' sv' ov' kv',e=.returned (.tuple #[stV (doS s d) fv' sv' ov' kv',.int .i64 (doE s d)])∧StN w' w.heap.size s.f fv s.store sv s.out ov s.k.l kv (doS s d) fv' sv' ov' kv'∧Below w.heap.size w w':=by
 have OA:=y36h (((Own.new w (stA s fv sv ov kv) 40).alloc (.cells (deL d gv).toArray 54)).alloc (.cells stZ.toArray 40))
 have OD:=y36h ((Own.newAt (w.alloc (.cells (stA s fv sv ov kv) 40)) (deL d gv).toArray 54 (b:=w.heap.size + 1) (by simp)).alloc (.cells stZ.toArray 40))
 have OT:=y36h (Own.newAt ((w.alloc (.cells (stA s fv sv ov kv) 40)).alloc (.cells (deL d gv).toArray 54)) stZ.toArray 40 (b:=w.heap.size + 1 + 1) (by simp))
 have BEL:=y36h ((((Below.refl w.heap.size w).alloc (Nat.le_refl _) (.cells (stA s fv sv ov kv) 40)).alloc (by simp) (.cells (deL d gv).toArray 54)).alloc (by simp;omega) (.cells stZ.toArray 40))
 have CK:=fun w'=>y36h (zg6 d.what w')
 have HW:=y36h hS
 have HD:=y36h hD
 have lOD:=OD.out.cell
 have zOD:=OD.out.lt
 have hpk:=ziz d.what
 clear hS hD
 rcases (show za4 d.what=0 ∨ za4 d.what=1 ∨ za4 d.what=2 ∨ za4 d.what=3 by omega) with h0 | h1 | h2 | h3
 · have EU:doS s d=creS s (itS d.id d.kd d.num d.x d.y):=by unfold doS;simp [h0]
   have EE:doE s d=creE s (itS d.id d.kd d.num d.x d.y):=by unfold doE;simp [h0]
   rw [h0] at CK
   have HPV:=y36h HW.out.lf
   have CC:=fun w' (hb:Below w.heap.size w w')=>y36h (show Calls Tryz.prog 78 #[stV s fv sv ov kv,.string d.id,.string d.kd,.int .i64 d.num,.complex .f64 d.x d.y] w' (fun e w''=>∃ fv' sv' ov' kv',e=.returned (.tuple #[stV (doS s d) fv' sv' ov' kv',.int .i64 (doE s d)])∧StN w'' w'.heap.size s.f fv s.store sv s.out ov s.k.l kv (doS s d) fv' sv' ov' kv'∧Below w'.heap.size w' w'') from by rw [EU,EE];exact zr9 s fv sv ov kv d.id d.kd d.num d.x d.y w' (HW.out.later hb) hG hB HD.out.id HD.out.kd)
   clear EU EE hpk
   generalize doS s d=U at *
   generalize doE s d=E at *
   go_enter Tryz.func23,Tryz.ntmps23
   go_wp2_with (first | (go_at_call 16;refine (CK _).out.mono ?_;rintro e w1 ⟨rfl,rfl⟩) | (refine wpList_load_mid (by rfl) 40 _ (by rfl) w.heap.size 0 (by rfl) (stA s fv sv ov kv).toList _ OA.out.range Tryz.underlying40 (by rfl) (by kernel_rfl) ?_) | (go_at_call 78;refine (CC _ BEL.out).out.mono ?_;rintro e w3 ⟨fv',sv',ov',kv',rfl,hx,hb⟩;have hst:=hx.lies (HPV.out) (HW.out.ls) (HW.out.lo) (HW.out.lk) (BEL.out.trans (hb.mono BEL.out.size));have f1:fv'.oneCell'=true:=zas hst.lf;have f2:sv'.oneCell'=true:=(by obtain ⟨_,_,_,_,e,_⟩:=hst.ls;rw [e];rfl);have f3:ov'.oneCell'=true:=(by obtain ⟨_,_,_,_,e,_⟩:=hst.lo;rw [e];rfl);have f4:kv'.oneCell'=true:=(by obtain ⟨_,_,e⟩:=hst.lk.val;rw [e];rfl);unfold Value.oneCell' at f1 f2 f3 f4;have hB3:=y36h (show w.heap.size + 1 + 1 < _ from OT.out.lt);have HX:=y36h hx;have BE2:=y36h (BEL.out.trans (hb.mono BEL.out.size));have OT2:=y36h (OT.out.later hb);clear hst hx hb) | (refine wpList_store_mid (by rfl) 40 _ _ (by rfl) (w.heap.size + 1 + 1) 0 (stA U fv' sv' ov' kv') (by rfl) (by rfl) (OT2.out.there (by rfl)) (by kernel_rfl) (by simp [Value.oneCell',f1,f2,f3,f4]) ?_;have HK:=y36h (And.intro (OT2.out.sets (stA U fv' sv' ov' kv').toList (by rfl)) (And.intro (zaa (b:=w.heap.size + 1 + 1) (by omega) (stA U fv' sv' ov' kv').toList 0 BE2.out) (HX.out.sets (b:=w.heap.size + 1 + 1) hB3.out (stA U fv' sv' ov' kv').toList)));revert HK;generalize World.setCells _ _ _ _=WW;intro HK) | fail)
   exact zab (by rfl) (by rfl) (by rfl) HK.out.1.range Tryz.underlying40 (by rfl) (by kernel_rfl) rfl ⟨fv',sv',ov',kv',rfl,HK.out.2.2.mono (by first | (have:=hB3.out;omega) | (have:=hB0.out;omega)),HK.out.2.1⟩
 · have EU:doS s d=updS s (itS d.id d.kd d.num d.x d.y):=by unfold doS;simp [h1]
   have EE:doE s d=updE s (itS d.id d.kd d.num d.x d.y):=by unfold doE;simp [h1]
   rw [h1] at CK
   have HPV:=y36h HW.out.lf
   have CC:=fun w' (hb:Below w.heap.size w w')=>y36h (show Calls Tryz.prog 79 #[stV s fv sv ov kv,.string d.id,.string d.kd,.int .i64 d.num,.complex .f64 d.x d.y] w' (fun e w''=>∃ fv' sv' ov' kv',e=.returned (.tuple #[stV (doS s d) fv' sv' ov' kv',.int .i64 (doE s d)])∧StN w'' w'.heap.size s.f fv s.store sv s.out ov s.k.l kv (doS s d) fv' sv' ov' kv'∧Below w'.heap.size w' w'') from by rw [EU,EE];exact zsc s fv sv ov kv d.id d.kd d.num d.x d.y w' (HW.out.later hb) hG hB HD.out.id HD.out.kd)
   clear EU EE hpk
   generalize doS s d=U at *
   generalize doE s d=E at *
   go_enter Tryz.func23,Tryz.ntmps23
   go_wp2_with (first | (go_at_call 16;refine (CK _).out.mono ?_;rintro e w1 ⟨rfl,rfl⟩) | (refine wpList_load_mid (by rfl) 40 _ (by rfl) w.heap.size 0 (by rfl) (stA s fv sv ov kv).toList _ OA.out.range Tryz.underlying40 (by rfl) (by kernel_rfl) ?_) | (go_at_call 79;refine (CC _ BEL.out).out.mono ?_;rintro e w3 ⟨fv',sv',ov',kv',rfl,hx,hb⟩;have hst:=hx.lies (HPV.out) (HW.out.ls) (HW.out.lo) (HW.out.lk) (BEL.out.trans (hb.mono BEL.out.size));have f1:fv'.oneCell'=true:=zas hst.lf;have f2:sv'.oneCell'=true:=(by obtain ⟨_,_,_,_,e,_⟩:=hst.ls;rw [e];rfl);have f3:ov'.oneCell'=true:=(by obtain ⟨_,_,_,_,e,_⟩:=hst.lo;rw [e];rfl);have f4:kv'.oneCell'=true:=(by obtain ⟨_,_,e⟩:=hst.lk.val;rw [e];rfl);unfold Value.oneCell' at f1 f2 f3 f4;have hB3:=y36h (show w.heap.size + 1 + 1 < _ from OT.out.lt);have HX:=y36h hx;have BE2:=y36h (BEL.out.trans (hb.mono BEL.out.size));have OT2:=y36h (OT.out.later hb);clear hst hx hb) | (refine wpList_store_mid (by rfl) 40 _ _ (by rfl) (w.heap.size + 1 + 1) 0 (stA U fv' sv' ov' kv') (by rfl) (by rfl) (OT2.out.there (by rfl)) (by kernel_rfl) (by simp [Value.oneCell',f1,f2,f3,f4]) ?_;have HK:=y36h (And.intro (OT2.out.sets (stA U fv' sv' ov' kv').toList (by rfl)) (And.intro (zaa (b:=w.heap.size + 1 + 1) (by omega) (stA U fv' sv' ov' kv').toList 0 BE2.out) (HX.out.sets (b:=w.heap.size + 1 + 1) hB3.out (stA U fv' sv' ov' kv').toList)));revert HK;generalize World.setCells _ _ _ _=WW;intro HK) | fail)
   exact zab (by rfl) (by rfl) (by rfl) HK.out.1.range Tryz.underlying40 (by rfl) (by kernel_rfl) rfl ⟨fv',sv',ov',kv',rfl,HK.out.2.2.mono (by first | (have:=hB3.out;omega) | (have:=hB0.out;omega)),HK.out.2.1⟩
 · have EU:doS s d=delS s d.id:=by unfold doS;simp [h2]
   have EE:doE s d=delE s d.id:=by unfold doE;simp [h2]
   rw [h2] at CK
   have HPV:=y36h HW.out.lf
   have CC:=fun w' (hb:Below w.heap.size w w')=>y36h (show Calls Tryz.prog 80 #[stV s fv sv ov kv,.string d.id] w' (fun e w''=>∃ fv' sv' ov' kv',e=.returned (.tuple #[stV (doS s d) fv' sv' ov' kv',.int .i64 (doE s d)])∧StN w'' w'.heap.size s.f fv s.store sv s.out ov s.k.l kv (doS s d) fv' sv' ov' kv'∧Below w'.heap.size w' w'') from by rw [EU,EE];exact zsa s fv sv ov kv d.id w' (HW.out.later hb) hG hB HD.out.id)
   clear EU EE hpk
   generalize doS s d=U at *
   generalize doE s d=E at *
   go_enter Tryz.func23,Tryz.ntmps23
   go_wp2_with (first | (go_at_call 16;refine (CK _).out.mono ?_;rintro e w1 ⟨rfl,rfl⟩) | (refine wpList_load_mid (by rfl) 40 _ (by rfl) w.heap.size 0 (by rfl) (stA s fv sv ov kv).toList _ OA.out.range Tryz.underlying40 (by rfl) (by kernel_rfl) ?_) | (go_at_call 80;refine (CC _ BEL.out).out.mono ?_;rintro e w3 ⟨fv',sv',ov',kv',rfl,hx,hb⟩;have hst:=hx.lies (HPV.out) (HW.out.ls) (HW.out.lo) (HW.out.lk) (BEL.out.trans (hb.mono BEL.out.size));have f1:fv'.oneCell'=true:=zas hst.lf;have f2:sv'.oneCell'=true:=(by obtain ⟨_,_,_,_,e,_⟩:=hst.ls;rw [e];rfl);have f3:ov'.oneCell'=true:=(by obtain ⟨_,_,_,_,e,_⟩:=hst.lo;rw [e];rfl);have f4:kv'.oneCell'=true:=(by obtain ⟨_,_,e⟩:=hst.lk.val;rw [e];rfl);unfold Value.oneCell' at f1 f2 f3 f4;have hB3:=y36h (show w.heap.size + 1 + 1 < _ from OT.out.lt);have HX:=y36h hx;have BE2:=y36h (BEL.out.trans (hb.mono BEL.out.size));have OT2:=y36h (OT.out.later hb);clear hst hx hb) | (refine wpList_store_mid (by rfl) 40 _ _ (by rfl) (w.heap.size + 1 + 1) 0 (stA U fv' sv' ov' kv') (by rfl) (by rfl) (OT2.out.there (by rfl)) (by kernel_rfl) (by simp [Value.oneCell',f1,f2,f3,f4]) ?_;have HK:=y36h (And.intro (OT2.out.sets (stA U fv' sv' ov' kv').toList (by rfl)) (And.intro (zaa (b:=w.heap.size + 1 + 1) (by omega) (stA U fv' sv' ov' kv').toList 0 BE2.out) (HX.out.sets (b:=w.heap.size + 1 + 1) hB3.out (stA U fv' sv' ov' kv').toList)));revert HK;generalize World.setCells _ _ _ _=WW;intro HK) | fail)
   exact zab (by rfl) (by rfl) (by rfl) HK.out.1.range Tryz.underlying40 (by rfl) (by kernel_rfl) rfl ⟨fv',sv',ov',kv',rfl,HK.out.2.2.mono (by first | (have:=hB3.out;omega) | (have:=hB0.out;omega)),HK.out.2.1⟩
 · have EU:doS s d=filS s d.f:=by unfold doS;simp [h3]
   have EE:doE s d=filE s d.f:=by unfold doE;simp [h3]
   rw [h3] at CK
   have HPV:=y36h HW.out.lf
   have CP:=fun w' h=>y36h (zgt d.f gv w' h hsz)
   have CC:=fun v2 w' (hb:Below w.heap.size w w') (hl:LP w' d.f v2)=>y36h (show Calls Tryz.prog 81 #[stV s fv sv ov kv,prV d.f v2] w' (fun e w''=>∃ fv' sv' ov' kv',e=.returned (.tuple #[stV (doS s d) fv' sv' ov' kv',.int .i64 (doE s d)])∧(StN w'' w'.heap.size s.f fv s.store sv s.out ov s.k.l kv (doS s d) fv' sv' ov' kv' ∨ StN w'' w'.heap.size d.f v2 s.store sv s.out ov s.k.l kv (doS s d) fv' sv' ov' kv')∧Below w'.heap.size w' w'') from by
     rw [EU,EE]
     refine (zsb s fv sv ov kv d.f v2 w' (HW.out.later hb) hG hB hl hsz).mono ?_
     rintro e w'' (⟨fv',sv',ov',kv',he,hx,hb⟩ | ⟨fv',sv',ov',kv',he,hx,hb⟩)
     · exact ⟨fv',sv',ov',kv',he,.inl hx,hb⟩
     · exact ⟨fv',sv',ov',kv',he,.inr hx,hb⟩)
   clear EU EE hpk
   generalize doS s d=U at *
   generalize doE s d=E at *
   go_enter Tryz.func23,Tryz.ntmps23
   go_upto_region 9 with (first | (go_at_call 16;refine (CK _).out.mono ?_;rintro e w1 ⟨rfl,rfl⟩) | fail)
   replace OA:=y36h OA.out.drew
   replace OD:=y36h OD.out.drew
   replace OT:=y36h OT.out.drew
   replace BEL:=y36h BEL.out.drew
   refine wp_region_held_drew (S:=(fun w'=>(∀ o,w'.cell? ⟨w.heap.size,o,none⟩=(stA s fv sv ov kv)[o]?)∧∀ o,w'.cell? ⟨w.heap.size + 1,o,none⟩=(deL d gv).toArray[o]?)) (by kernel_rfl) (by exact ⟨OA.out.cell,OD.out.cell⟩) (fun hHeld=>?_)
   refine wpAnyH_take (i:=0) (v:=stV s fv sv ov kv) rfl (by kernel_rfl) (by kernel_rfl) (by kernel_rfl) (fun _ _ _ h=>h) (Or.inl ⟨by rfl,fun w5 h5=>zc9 40 _ rfl w.heap.size 0 (by rfl) (stA s fv sv ov kv).toList _ (fun j v hv=>by rw [Nat.zero_add,h5.1 j];simpa using hv) Tryz.underlying40 (by rfl) (by kernel_rfl)⟩) (by assumption) ?_
   try simp only [Act.put,y36a,y36b,y36c,y36d,y36e,y36f]
   refine wpAnyH_take (i:=1) (v:=?_) rfl (by kernel_rfl) (by kernel_rfl) (by kernel_rfl) (fun _ _ _ h=>h) (Or.inl ⟨by rfl,?_⟩) (by assumption) ?_
   rotate_left 1
   · (intro w hSw;(try dsimp only at hSw);go_simp;try with_reducible rfl)
   try simp only [Act.put,y36a,y36b,y36c,y36d,y36e,y36f]
   refine wpAnyH_take (i:=2) (v:=?_) rfl (by kernel_rfl) (by kernel_rfl) (by kernel_rfl) (fun _ _ _ h=>h) (Or.inl ⟨by rfl,?_⟩) (by assumption) ?_
   rotate_left 1
   · (intro w hSw;(try dsimp only at hSw);go_simp;try with_reducible rfl)
   try simp only [Act.put,y36a,y36b,y36c,y36d,y36e,y36f]
   refine wpAnyH_ready (rs:=[3]) (by kernel_rfl) (by simp) ?_
   refine AllReadyH.cons rfl (fun K hK=>?_) AllReadyH.nil
   try simp only [y36a,y36b,y36c]
   (go_simp;go_at_call 12;refine (CP _ (HD.out.lf.later BEL.out (Nat.le_refl _))).out.mono ?_;rintro e w2 ⟨v2,rfl,hl2,hb⟩;have hB0:=y36h OT.out.lt;have HL2:=y36h (show LPF w2 _ d.f v2 from hl2);have hB2:=y36h (show _≤w2.heap.size from hb.size);replace OA:=y36h (OA.out.later hb);replace OD:=y36h (OD.out.later hb);replace OT:=y36h (OT.out.later hb);replace BEL:=y36h (BEL.out.trans (hb.mono BEL.out.size));clear hl2 hb)
   try go_wp2_with fail
   refine hK.out _ _ (by exact ⟨OA.out.cell,OD.out.cell⟩) (fun hHeld=>?_)
   clear hK K
   try simp only [Act.put,y36a,y36b,y36c,y36d,y36e,y36f]
   refine wpAnyH_ready (rs:=[4]) (by kernel_rfl) (by simp) ?_
   refine AllReadyH.cons rfl (fun K hK=>?_) AllReadyH.nil
   try simp only [y36a,y36b,y36c]
   (go_simp;go_at_call 81;refine (CC _ _ BEL.out HL2.out.lp).out.mono ?_;rintro e w3 ⟨fv',sv',ov',kv',rfl,hor,hb⟩;have hx:=zi5 hor HL2.out hB2.out hb;have hst:=hx.lies HPV.out HW.out.ls HW.out.lo HW.out.lk (BEL.out.trans (hb.mono BEL.out.size));have f1:fv'.oneCell'=true:=zas hst.lf;have f2:sv'.oneCell'=true:=(by obtain ⟨_,_,_,_,e,_⟩:=hst.ls;rw [e];rfl);have f3:ov'.oneCell'=true:=(by obtain ⟨_,_,_,_,e,_⟩:=hst.lo;rw [e];rfl);have f4:kv'.oneCell'=true:=(by obtain ⟨_,_,e⟩:=hst.lk.val;rw [e];rfl);unfold Value.oneCell' at f1 f2 f3 f4;have HX:=y36h hx;replace OA:=y36h (OA.out.later hb);replace OD:=y36h (OD.out.later hb);replace OT:=y36h (OT.out.later hb);replace BEL:=y36h (BEL.out.trans (hb.mono BEL.out.size));clear hst hor hx hb)
   try go_wp2_with fail
   refine hK.out _ _ (by exact ⟨OA.out.cell,OD.out.cell⟩) (fun hHeld=>?_)
   clear hK K
   try simp only [Act.put,y36a,y36b,y36c,y36d,y36e,y36f]
   refine wpAnyH_take (i:=5) (v:=?_) rfl (by kernel_rfl) (by kernel_rfl) (by kernel_rfl) (fun _ _ _ h=>h) (Or.inl ⟨by rfl,?_⟩) (by assumption) ?_
   rotate_left 1
   · (intro w hSw;(try dsimp only at hSw);go_simp;try with_reducible rfl)
   try simp only [Act.put,y36a,y36b,y36c,y36d,y36e,y36f]
   refine wpAnyH_take (i:=6) (v:=?_) rfl (by kernel_rfl) (by kernel_rfl) (by kernel_rfl) (fun _ _ _ h=>h) (Or.inl ⟨by rfl,?_⟩) (by assumption) ?_
   rotate_left 1
   · (intro w hSw;(try dsimp only at hSw);go_simp;try with_reducible rfl)
   try simp only [Act.put,y36a,y36b,y36c,y36d,y36e,y36f]
   refine wpAnyH_ready (rs:=[7]) (by kernel_rfl) (by simp) ?_
   refine AllReadyH.cons rfl (fun K hK=>?_) AllReadyH.nil
   try simp only [y36a,y36b,y36c]
   first | rw [if_pos (by rfl)] | skip
   have HK:=y36h (And.intro (OT.out.sets (stA U fv' sv' ov' kv').toList (by rfl)) (And.intro (zaa (b:=w.heap.size + 1 + 1) (by omega) (stA U fv' sv' ov' kv').toList 0 BEL.out) (And.intro (HX.out.sets (b:=w.heap.size + 1 + 1) hB0.out (stA U fv' sv' ov' kv').toList) (And.intro (OA.out.setsFar (b:=w.heap.size + 1 + 1) (stA U fv' sv' ov' kv').toList 0 (by omega)) (OD.out.setsFar (b:=w.heap.size + 1 + 1) (stA U fv' sv' ov' kv').toList 0 (by omega))))))
   refine wp_store_mid 40 _ _ rfl (w.heap.size + 1 + 1) 0 (stA U fv' sv' ov' kv') (by rfl) (by rfl) (OT.out.there (by rfl)) (by kernel_rfl) (by simp [Value.oneCell',f1,f2,f3,f4]) ?_
   refine hK.out _ _ (by exact ⟨HK.out.2.2.2.1.cell,HK.out.2.2.2.2.cell⟩) (fun hHeld=>?_)
   clear hK K hHeld
   revert HK
   generalize World.setCells _ _ _ _=WW
   intro HK
   have hHeld:=And.intro HK.out.2.2.2.1.cell HK.out.2.2.2.2.cell
   try simp only [Act.put,y36a,y36b,y36c,y36d,y36e,y36f]
   refine wpAnyH_take (i:=8) (v:=?_) rfl (by kernel_rfl) (by kernel_rfl) (by kernel_rfl) (fun _ _ _ h=>h) (Or.inl ⟨by rfl,?_⟩) (by assumption) ?_
   rotate_left 1
   · (intro w hSw;(try dsimp only at hSw);go_simp;try with_reducible rfl)
   try simp only [Act.put,y36a,y36b,y36c,y36d,y36e,y36f]
   refine wpAnyH_done (by kernel_rfl) ?_ _
   clear hHeld
   go_wp2_with fail
   exact zab (by rfl) (by rfl) (by rfl) HK.out.1.range Tryz.underlying40 (by rfl) (by kernel_rfl) rfl ⟨fv',sv',ov',kv',rfl,HK.out.2.2.1.mono (by first | (have:=hB3.out;omega) | (have:=hB0.out;omega)),HK.out.2.1⟩
end Go.Proofs.YtodfhabkdaiopaaGreat
