/- Joined: LocT, LocalB, LocWant, LocM2. -/
import Derived.Test.YthnllikalobmeaaGreatK34
import Derived.Test.YthnllikalobmeaaGreatK33
import Derived.Test.YthnllikalobmeaaGreatK35
import Derived.Test.YthnllikalobmeaaGreatK36
import Derived.Test.YthnllikalobmeaaGreatK28
import Derived.Test.YthnllikalobmeaaGreatK27
import Derived.Test.YthnllikalobmeaaGreatK29
import Derived.Test.YthnllikalobmeaaGreatK30
import Derived.Test.YthnllikalobmeaaGreatK15
namespace Go.Proofs.YthnllikalobmeaaGreat
set_option linter.unusedVariables false
set_option linter.unusedSimpArgs false
set_option maxRecDepth 100000
set_option maxHeartbeats 8000000
open Go.RowKit
abbrev y37a:=@List.getElem_toArray
abbrev y37b:=@List.getElem_cons_zero
abbrev y37c:=@List.getElem_cons_succ
abbrev y37d:=@List.setIfInBounds_toArray
abbrev y37e:=@List.set_cons_zero
abbrev y37f:=@List.set_cons_succ
theorem y37h {p:Prop} (h:p):Hid p:=Lib.hid h
def errI (n:Int):Value:=errV n.toNat
def newE (r:Int) (f:Pr):Int:=if zcu r f = true then 0 else 1
def newT (r:Int) (f:Pr):St:=if zcu r f = true then newS r f else zgx
theorem zr9 (s:St) (fv sv ov kv:Value) (id kd:ByteArray) (num:Int) (px py:Nat) (w:World) (hS:StW w s fv sv ov kv) (hG:Good s) (hB:StB s) (hid:id.size ≤ maxLen) (hkd:kd.size ≤ maxLen) :
   Calls Tryz.prog 51 #[stV s fv sv ov kv,.string id,.string kd,.int .i64 num,.complex .f64 px py] w (Told numI s.f fv s sv ov kv (creS s (itS id kd num px py)) (creE s (itS id kd num px py)) w):=by
 have h1:=hB.f
 have h2:=hB.ls
 have h3:=hB.lo
 have h4:=hB.kl
 have h5:=hB.ki
 refine (zkg s fv sv ov kv id kd num px py w hS hid hkd (by omega) (by omega) (by omega) (by rw [zch];omega) (by omega) (by omega) hG.c hG.t).mono ?_
 rintro e w' ⟨sv',ov',kv',he,_,hx,hb⟩
 exact ⟨fv,sv',ov',kv',he,hx.n,hb⟩
theorem zsc (s:St) (fv sv ov kv:Value) (id kd:ByteArray) (num:Int) (px py:Nat) (w:World) (hS:StW w s fv sv ov kv) (hG:Good s) (hB:StB s) (hid:id.size ≤ maxLen) (hkd:kd.size ≤ maxLen) :
   Calls Tryz.prog 52 #[stV s fv sv ov kv,.string id,.string kd,.int .i64 num,.complex .f64 px py] w (Told numI s.f fv s sv ov kv (updS s (itS id kd num px py)) (updE s (itS id kd num px py)) w):=by
 have h1:=hB.f
 have h2:=hB.ls
 have h3:=hB.lo
 have h4:=hB.kl
 have h5:=hB.ki
 refine (zkj s fv sv ov kv id kd num px py w hS hid hkd (by omega) (by omega) (by omega) (by rw [zch];omega) (by omega) (by omega) hG.c hG.t).mono ?_
 rintro e w' ⟨sv',ov',kv',he,_,hx,hb⟩
 exact ⟨fv,sv',ov',kv',he,hx.n,hb⟩
theorem zsa (s:St) (fv sv ov kv:Value) (id:ByteArray) (w:World) (hS:StW w s fv sv ov kv) (hG:Good s) (hB:StB s) (hid:id.size ≤ maxLen) :
   Calls Tryz.prog 53 #[stV s fv sv ov kv,.string id] w (Told numI s.f fv s sv ov kv (delS s id) (delE s id) w):=by
 have h1:=hB.f
 have h2:=hB.ls
 have h3:=hB.lo
 have h4:=hB.kl
 have h5:=hB.ki
 refine (zkh s fv sv ov kv id w hS hid (by omega) (by omega) (by omega) (by rw [zch];omega) (by omega) (by omega) hG.c hG.t).mono ?_
 rintro e w' ⟨sv',ov',kv',he,_,hx,hb⟩
 exact ⟨fv,sv',ov',kv',he,hx.n,hb⟩
theorem zsb (s:St) (fv sv ov kv:Value) (f:Pr) (gv:Value) (w:World) (hS:StW w s fv sv ov kv) (hG:Good s) (hB:StB s) (hL:LP w f gv) (hf:f.size ≤ 60) :
   Calls Tryz.prog 54 #[stV s fv sv ov kv,prV f gv] w (zxm numI s.f fv f gv s sv ov kv (filS s f) (filE s f) w):=by
 have h2:=hB.ls
 have h3:=hB.lo
 refine (zki s fv sv ov kv f gv w hS hL (by omega) (by omega) (by omega) hG.e).mono ?_
 rintro e w' ⟨fv',sv',ov',kv',he,hx,hb⟩
 rcases hx with hx | hx
 · exact .inl ⟨fv',sv',ov',kv',he,hx,hb⟩
 · exact .inr ⟨fv',sv',ov',kv',he,hx,hb⟩
def doE (s:St) (d:De):Int:=if zbn d.what = 0 then creE s (itS d.id d.kd d.num d.x d.y) else if zbn d.what = 1 then updE s (itS d.id d.kd d.num d.x d.y) else if zbn d.what = 2 then delE s d.id else filE s d.f
def doS (s:St) (d:De):St:=if zbn d.what = 0 then creS s (itS d.id d.kd d.num d.x d.y) else if zbn d.what = 1 then updS s (itS d.id d.kd d.num d.x d.y) else if zbn d.what = 2 then delS s d.id else filS s d.f
theorem zye (s:St) (x:Itm):0 ≤ creE s x ∧ creE s x ≤ 10:=by unfold creE;(repeat' split) <;> decide
theorem zy8 (s:St) (x:Itm):0 ≤ updE s x ∧ updE s x ≤ 10:=by unfold updE;(repeat' split) <;> decide
theorem zyf (s:St) (id:ByteArray):0 ≤ delE s id ∧ delE s id ≤ 10:=by unfold delE;(repeat' split) <;> decide
theorem zyk (s:St) (f:Pr):0 ≤ filE s f ∧ filE s f ≤ 10:=by unfold filE;(repeat' split) <;> decide
theorem zed {E:Int} (h:0 ≤ E ∧ E ≤ 10) (w:World):Calls Tryz.prog 17 #[errI E] w fun e w'=>e = .returned (.int .i64 E) ∧ w = w':=by
 have:=zrh E.toNat (by omega) w
 rw [show ((E.toNat:Nat):Int) = E by omega] at this
 exact this
theorem zbv {P:Program} {o:Oper} {a:Act} {w:World} (ty:TypeId) (x:Operand) (ho:o.op = .load ty x) (b off:Nat) (hx:a.eval x = .pointer (some ⟨b,off,none⟩)) (cs:List Value) (d:TypeDesc) (hc:w.rangeAt b off cs)
   (hu:P.underlying ty = some d) (hd:d.isRow = true) (hi:(P.info? ty).map (·.size) = some cs.length):(execOp a.eval o).run P w = .ok (.value (.agg cs.toArray)) w:=by
 unfold execOp
 simp only [ho,hx,Instr.loadAt,Instr.sureAddr,Sem.run_bind,Sem.run_pure,Result.andThen_ok,run_loadVar_mid w b off ty cs d hc hu hd hi]
theorem zii {w2 w3:World} {s U:St} {fv sv ov kv v2 fv' sv' ov' kv':Value} {f:Pr} {B:Nat} (h:StN w3 w2.heap.size s.f fv s.store sv s.out ov s.k.l kv U fv' sv' ov' kv' ∨ StN w3 w2.heap.size f v2 s.store sv s.out ov s.k.l kv U fv' sv' ov' kv') (hF:LPF w2 B f v2) (hB:B ≤ w2.heap.size) (hb3:Below w2.heap.size w2 w3):StN w3 B s.f fv s.store sv s.out ov s.k.l kv U fv' sv' ov' kv':=by
 rcases h with h | h
 · exact h.mono hB
 · obtain ⟨h1,h2,h3,h4⟩:=h.mono hB
   refine ⟨.inr ?_,h2,h3,h4⟩
   rcases h1 with ⟨e,rfl⟩ | h1
   · rw [e];exact hF.later hb3
   · exact h1
theorem zp7 (s:St) (fv sv ov kv:Value) (d:De) (gv:Value) (w:World) (hS:StW w s fv sv ov kv) (hD:DeW w d gv) (hG:Good s) (hB:StB s) (hsz:d.f.size ≤ 60) :
   Calls Tryz.prog 19 #[stV s fv sv ov kv,deV d gv] w fun e w'=>∃ fv' sv' ov' kv',e = .returned (.tuple #[stV (doS s d) fv' sv' ov' kv',.int .i64 (doE s d)]) ∧ StN w' w.heap.size s.f fv s.store sv s.out ov s.k.l kv (doS s d) fv' sv' ov' kv' ∧ Below w.heap.size w w':=by
 have OA:=y37h (((Own.new w (stA s fv sv ov kv) 43).alloc (.cells (deL d gv).toArray 57)).alloc (.cells stZ.toArray 43))
 have OD:=y37h ((Own.newAt (w.alloc (.cells (stA s fv sv ov kv) 43)) (deL d gv).toArray 57 (b:=w.heap.size + 1) (by simp)).alloc (.cells stZ.toArray 43))
 have OT:=y37h (Own.newAt ((w.alloc (.cells (stA s fv sv ov kv) 43)).alloc (.cells (deL d gv).toArray 57)) stZ.toArray 43 (b:=w.heap.size + 1 + 1) (by simp))
 have BEL:=y37h ((((Below.refl w.heap.size w).alloc (Nat.le_refl _) (.cells (stA s fv sv ov kv) 43)).alloc (by simp) (.cells (deL d gv).toArray 57)).alloc (by simp;omega) (.cells stZ.toArray 43))
 have CK:=fun w'=>y37h (zkd d.what w')
 have HW:=y37h hS
 have HD:=y37h hD
 have lOD:=OD.out.cell
 have zOD:=OD.out.lt
 have hpk:=zk7 d.what
 clear hS hD
 rcases (show zbn d.what = 0 ∨ zbn d.what = 1 ∨ zbn d.what = 2 ∨ zbn d.what = 3 by omega) with h0 | h1 | h2 | h3
 · have EU:doS s d = creS s (itS d.id d.kd d.num d.x d.y):=by unfold doS;simp [h0]
   have EE:doE s d = creE s (itS d.id d.kd d.num d.x d.y):=by unfold doE;simp [h0]
   rw [h0] at CK
   have HPV:=y37h HW.out.lf
   have CC:=fun w' (hb:Below w.heap.size w w')=>y37h (show Calls Tryz.prog 51 #[stV s fv sv ov kv,.string d.id,.string d.kd,.int .i64 d.num,.complex .f64 d.x d.y] w' (fun e w''=>∃ fv' sv' ov' kv',e = .returned (.tuple #[stV (doS s d) fv' sv' ov' kv',.int .i64 (doE s d)]) ∧ StN w'' w'.heap.size s.f fv s.store sv s.out ov s.k.l kv (doS s d) fv' sv' ov' kv' ∧ Below w'.heap.size w' w'') from by rw [EU,EE];exact zr9 s fv sv ov kv d.id d.kd d.num d.x d.y w' (HW.out.later hb) hG hB HD.out.id HD.out.kd)
   clear EU EE hpk
   generalize doS s d = U at *
   generalize doE s d = E at *
   go_enter Tryz.func19,Tryz.ntmps19
   go_wp2_with (first | (go_at_call 24;refine (CK _).out.mono ?_;rintro e w1 ⟨rfl,rfl⟩) | (refine wpList_load_mid (by rfl) 43 _ (by rfl) w.heap.size 0 (by rfl) (stA s fv sv ov kv).toList _ OA.out.range Tryz.underlying43 (by rfl) (by kernel_rfl) ?_) | (go_at_call 51;refine (CC _ BEL.out).out.mono ?_;rintro e w3 ⟨fv',sv',ov',kv',rfl,hx,hb⟩;have hst:=hx.lies (HPV.out) (HW.out.ls) (HW.out.lo) (HW.out.lk) (BEL.out.trans (hb.mono BEL.out.size));have f1:fv'.oneCell' = true:=zar hst.lf;have f2:sv'.oneCell' = true:=(by obtain ⟨_,_,_,_,e,_⟩:=hst.ls;rw [e];rfl);have f3:ov'.oneCell' = true:=(by obtain ⟨_,_,_,_,e,_⟩:=hst.lo;rw [e];rfl);have f4:kv'.oneCell' = true:=(by obtain ⟨_,_,e⟩:=hst.lk.val;rw [e];rfl);unfold Value.oneCell' at f1 f2 f3 f4;have hB3:=y37h (show w.heap.size + 1 + 1 < _ from OT.out.lt);have HX:=y37h hx;have BE2:=y37h (BEL.out.trans (hb.mono BEL.out.size));have OT2:=y37h (OT.out.later hb);clear hst hx hb) | (refine wpList_store_mid (by rfl) 43 _ _ (by rfl) (w.heap.size + 1 + 1) 0 (stA U fv' sv' ov' kv') (by rfl) (by rfl) (OT2.out.there (by rfl)) (by kernel_rfl) (by simp [Value.oneCell',f1,f2,f3,f4]) ?_;have HK:=y37h (And.intro (OT2.out.sets (stA U fv' sv' ov' kv').toList (by rfl)) (And.intro (zab (b:=w.heap.size + 1 + 1) (by omega) (stA U fv' sv' ov' kv').toList 0 BE2.out) (HX.out.sets (b:=w.heap.size + 1 + 1) hB3.out (stA U fv' sv' ov' kv').toList)));revert HK;generalize World.setCells _ _ _ _ = WW;intro HK) | fail)
   exact zae (by rfl) (by rfl) (by rfl) HK.out.1.range Tryz.underlying43 (by rfl) (by kernel_rfl) rfl ⟨fv',sv',ov',kv',rfl,HK.out.2.2.mono (by first | (have:=hB3.out;omega) | (have:=hB0.out;omega)),HK.out.2.1⟩
 · have EU:doS s d = updS s (itS d.id d.kd d.num d.x d.y):=by unfold doS;simp [h1]
   have EE:doE s d = updE s (itS d.id d.kd d.num d.x d.y):=by unfold doE;simp [h1]
   rw [h1] at CK
   have HPV:=y37h HW.out.lf
   have CC:=fun w' (hb:Below w.heap.size w w')=>y37h (show Calls Tryz.prog 52 #[stV s fv sv ov kv,.string d.id,.string d.kd,.int .i64 d.num,.complex .f64 d.x d.y] w' (fun e w''=>∃ fv' sv' ov' kv',e = .returned (.tuple #[stV (doS s d) fv' sv' ov' kv',.int .i64 (doE s d)]) ∧ StN w'' w'.heap.size s.f fv s.store sv s.out ov s.k.l kv (doS s d) fv' sv' ov' kv' ∧ Below w'.heap.size w' w'') from by rw [EU,EE];exact zsc s fv sv ov kv d.id d.kd d.num d.x d.y w' (HW.out.later hb) hG hB HD.out.id HD.out.kd)
   clear EU EE hpk
   generalize doS s d = U at *
   generalize doE s d = E at *
   go_enter Tryz.func19,Tryz.ntmps19
   go_wp2_with (first | (go_at_call 24;refine (CK _).out.mono ?_;rintro e w1 ⟨rfl,rfl⟩) | (refine wpList_load_mid (by rfl) 43 _ (by rfl) w.heap.size 0 (by rfl) (stA s fv sv ov kv).toList _ OA.out.range Tryz.underlying43 (by rfl) (by kernel_rfl) ?_) | (go_at_call 52;refine (CC _ BEL.out).out.mono ?_;rintro e w3 ⟨fv',sv',ov',kv',rfl,hx,hb⟩;have hst:=hx.lies (HPV.out) (HW.out.ls) (HW.out.lo) (HW.out.lk) (BEL.out.trans (hb.mono BEL.out.size));have f1:fv'.oneCell' = true:=zar hst.lf;have f2:sv'.oneCell' = true:=(by obtain ⟨_,_,_,_,e,_⟩:=hst.ls;rw [e];rfl);have f3:ov'.oneCell' = true:=(by obtain ⟨_,_,_,_,e,_⟩:=hst.lo;rw [e];rfl);have f4:kv'.oneCell' = true:=(by obtain ⟨_,_,e⟩:=hst.lk.val;rw [e];rfl);unfold Value.oneCell' at f1 f2 f3 f4;have hB3:=y37h (show w.heap.size + 1 + 1 < _ from OT.out.lt);have HX:=y37h hx;have BE2:=y37h (BEL.out.trans (hb.mono BEL.out.size));have OT2:=y37h (OT.out.later hb);clear hst hx hb) | (refine wpList_store_mid (by rfl) 43 _ _ (by rfl) (w.heap.size + 1 + 1) 0 (stA U fv' sv' ov' kv') (by rfl) (by rfl) (OT2.out.there (by rfl)) (by kernel_rfl) (by simp [Value.oneCell',f1,f2,f3,f4]) ?_;have HK:=y37h (And.intro (OT2.out.sets (stA U fv' sv' ov' kv').toList (by rfl)) (And.intro (zab (b:=w.heap.size + 1 + 1) (by omega) (stA U fv' sv' ov' kv').toList 0 BE2.out) (HX.out.sets (b:=w.heap.size + 1 + 1) hB3.out (stA U fv' sv' ov' kv').toList)));revert HK;generalize World.setCells _ _ _ _ = WW;intro HK) | fail)
   exact zae (by rfl) (by rfl) (by rfl) HK.out.1.range Tryz.underlying43 (by rfl) (by kernel_rfl) rfl ⟨fv',sv',ov',kv',rfl,HK.out.2.2.mono (by first | (have:=hB3.out;omega) | (have:=hB0.out;omega)),HK.out.2.1⟩
 · have EU:doS s d = delS s d.id:=by unfold doS;simp [h2]
   have EE:doE s d = delE s d.id:=by unfold doE;simp [h2]
   rw [h2] at CK
   have HPV:=y37h HW.out.lf
   have CC:=fun w' (hb:Below w.heap.size w w')=>y37h (show Calls Tryz.prog 53 #[stV s fv sv ov kv,.string d.id] w' (fun e w''=>∃ fv' sv' ov' kv',e = .returned (.tuple #[stV (doS s d) fv' sv' ov' kv',.int .i64 (doE s d)]) ∧ StN w'' w'.heap.size s.f fv s.store sv s.out ov s.k.l kv (doS s d) fv' sv' ov' kv' ∧ Below w'.heap.size w' w'') from by rw [EU,EE];exact zsa s fv sv ov kv d.id w' (HW.out.later hb) hG hB HD.out.id)
   clear EU EE hpk
   generalize doS s d = U at *
   generalize doE s d = E at *
   go_enter Tryz.func19,Tryz.ntmps19
   go_wp2_with (first | (go_at_call 24;refine (CK _).out.mono ?_;rintro e w1 ⟨rfl,rfl⟩) | (refine wpList_load_mid (by rfl) 43 _ (by rfl) w.heap.size 0 (by rfl) (stA s fv sv ov kv).toList _ OA.out.range Tryz.underlying43 (by rfl) (by kernel_rfl) ?_) | (go_at_call 53;refine (CC _ BEL.out).out.mono ?_;rintro e w3 ⟨fv',sv',ov',kv',rfl,hx,hb⟩;have hst:=hx.lies (HPV.out) (HW.out.ls) (HW.out.lo) (HW.out.lk) (BEL.out.trans (hb.mono BEL.out.size));have f1:fv'.oneCell' = true:=zar hst.lf;have f2:sv'.oneCell' = true:=(by obtain ⟨_,_,_,_,e,_⟩:=hst.ls;rw [e];rfl);have f3:ov'.oneCell' = true:=(by obtain ⟨_,_,_,_,e,_⟩:=hst.lo;rw [e];rfl);have f4:kv'.oneCell' = true:=(by obtain ⟨_,_,e⟩:=hst.lk.val;rw [e];rfl);unfold Value.oneCell' at f1 f2 f3 f4;have hB3:=y37h (show w.heap.size + 1 + 1 < _ from OT.out.lt);have HX:=y37h hx;have BE2:=y37h (BEL.out.trans (hb.mono BEL.out.size));have OT2:=y37h (OT.out.later hb);clear hst hx hb) | (refine wpList_store_mid (by rfl) 43 _ _ (by rfl) (w.heap.size + 1 + 1) 0 (stA U fv' sv' ov' kv') (by rfl) (by rfl) (OT2.out.there (by rfl)) (by kernel_rfl) (by simp [Value.oneCell',f1,f2,f3,f4]) ?_;have HK:=y37h (And.intro (OT2.out.sets (stA U fv' sv' ov' kv').toList (by rfl)) (And.intro (zab (b:=w.heap.size + 1 + 1) (by omega) (stA U fv' sv' ov' kv').toList 0 BE2.out) (HX.out.sets (b:=w.heap.size + 1 + 1) hB3.out (stA U fv' sv' ov' kv').toList)));revert HK;generalize World.setCells _ _ _ _ = WW;intro HK) | fail)
   exact zae (by rfl) (by rfl) (by rfl) HK.out.1.range Tryz.underlying43 (by rfl) (by kernel_rfl) rfl ⟨fv',sv',ov',kv',rfl,HK.out.2.2.mono (by first | (have:=hB3.out;omega) | (have:=hB0.out;omega)),HK.out.2.1⟩
 · have EU:doS s d = filS s d.f:=by unfold doS;simp [h3]
   have EE:doE s d = filE s d.f:=by unfold doE;simp [h3]
   rw [h3] at CK
   have HPV:=y37h HW.out.lf
   have CP:=fun w' h=>y37h (zgd d.f gv w' h hsz)
   have CC:=fun v2 w' (hb:Below w.heap.size w w') (hl:LP w' d.f v2)=>y37h (show Calls Tryz.prog 54 #[stV s fv sv ov kv,prV d.f v2] w' (fun e w''=>∃ fv' sv' ov' kv',e = .returned (.tuple #[stV (doS s d) fv' sv' ov' kv',.int .i64 (doE s d)]) ∧ (StN w'' w'.heap.size s.f fv s.store sv s.out ov s.k.l kv (doS s d) fv' sv' ov' kv' ∨ StN w'' w'.heap.size d.f v2 s.store sv s.out ov s.k.l kv (doS s d) fv' sv' ov' kv') ∧ Below w'.heap.size w' w'') from by
     rw [EU,EE]
     refine (zsb s fv sv ov kv d.f v2 w' (HW.out.later hb) hG hB hl hsz).mono ?_
     rintro e w'' (⟨fv',sv',ov',kv',he,hx,hb⟩ | ⟨fv',sv',ov',kv',he,hx,hb⟩)
     · exact ⟨fv',sv',ov',kv',he,.inl hx,hb⟩
     · exact ⟨fv',sv',ov',kv',he,.inr hx,hb⟩)
   clear EU EE hpk
   generalize doS s d = U at *
   generalize doE s d = E at *
   go_enter Tryz.func19,Tryz.ntmps19
   go_upto_region 9 with (first | (go_at_call 24;refine (CK _).out.mono ?_;rintro e w1 ⟨rfl,rfl⟩) | fail)
   replace OA:=y37h OA.out.drew
   replace OD:=y37h OD.out.drew
   replace OT:=y37h OT.out.drew
   replace BEL:=y37h BEL.out.drew
   refine wp_region_held_drew (S:=(fun w'=>(∀ o,w'.cell? ⟨w.heap.size,o,none⟩ = (stA s fv sv ov kv)[o]?) ∧ ∀ o,w'.cell? ⟨w.heap.size + 1,o,none⟩ = (deL d gv).toArray[o]?)) (by kernel_rfl) (by exact ⟨OA.out.cell,OD.out.cell⟩) (fun hHeld=>?_)
   refine wpAnyH_take (i:=0) (v:=stV s fv sv ov kv) rfl (by kernel_rfl) (by kernel_rfl) (by kernel_rfl) (fun _ _ _ h=>h) (Or.inl ⟨by rfl,fun w5 h5=>zbv 43 _ rfl w.heap.size 0 (by rfl) (stA s fv sv ov kv).toList _ (fun j v hv=>by rw [Nat.zero_add,h5.1 j];simpa using hv) Tryz.underlying43 (by rfl) (by kernel_rfl)⟩) (by assumption) ?_
   try simp only [Act.put,y37a,y37b,y37c,y37d,y37e,y37f]
   refine wpAnyH_take (i:=1) (v:=?_) rfl (by kernel_rfl) (by kernel_rfl) (by kernel_rfl) (fun _ _ _ h=>h) (Or.inl ⟨by rfl,?_⟩) (by assumption) ?_
   rotate_left 1
   · (intro w hSw;(try dsimp only at hSw);go_simp;try with_reducible rfl)
   try simp only [Act.put,y37a,y37b,y37c,y37d,y37e,y37f]
   refine wpAnyH_take (i:=2) (v:=?_) rfl (by kernel_rfl) (by kernel_rfl) (by kernel_rfl) (fun _ _ _ h=>h) (Or.inl ⟨by rfl,?_⟩) (by assumption) ?_
   rotate_left 1
   · (intro w hSw;(try dsimp only at hSw);go_simp;try with_reducible rfl)
   try simp only [Act.put,y37a,y37b,y37c,y37d,y37e,y37f]
   refine wpAnyH_ready (rs:=[3]) (by kernel_rfl) (by simp) ?_
   refine AllReadyH.cons rfl (fun K hK=>?_) AllReadyH.nil
   try simp only [y37a,y37b,y37c]
   (go_simp;go_at_call 14;refine (CP _ (HD.out.lf.later BEL.out (Nat.le_refl _))).out.mono ?_;rintro e w2 ⟨v2,rfl,hl2,hb⟩;have hB0:=y37h OT.out.lt;have HL2:=y37h (show LPF w2 _ d.f v2 from hl2);have hB2:=y37h (show _ ≤ w2.heap.size from hb.size);replace OA:=y37h (OA.out.later hb);replace OD:=y37h (OD.out.later hb);replace OT:=y37h (OT.out.later hb);replace BEL:=y37h (BEL.out.trans (hb.mono BEL.out.size));clear hl2 hb)
   try go_wp2_with fail
   refine hK.out _ _ (by exact ⟨OA.out.cell,OD.out.cell⟩) (fun hHeld=>?_)
   clear hK K
   try simp only [Act.put,y37a,y37b,y37c,y37d,y37e,y37f]
   refine wpAnyH_ready (rs:=[4]) (by kernel_rfl) (by simp) ?_
   refine AllReadyH.cons rfl (fun K hK=>?_) AllReadyH.nil
   try simp only [y37a,y37b,y37c]
   (go_simp;go_at_call 54;refine (CC _ _ BEL.out HL2.out.lp).out.mono ?_;rintro e w3 ⟨fv',sv',ov',kv',rfl,hor,hb⟩;have hx:=zii hor HL2.out hB2.out hb;have hst:=hx.lies HPV.out HW.out.ls HW.out.lo HW.out.lk (BEL.out.trans (hb.mono BEL.out.size));have f1:fv'.oneCell' = true:=zar hst.lf;have f2:sv'.oneCell' = true:=(by obtain ⟨_,_,_,_,e,_⟩:=hst.ls;rw [e];rfl);have f3:ov'.oneCell' = true:=(by obtain ⟨_,_,_,_,e,_⟩:=hst.lo;rw [e];rfl);have f4:kv'.oneCell' = true:=(by obtain ⟨_,_,e⟩:=hst.lk.val;rw [e];rfl);unfold Value.oneCell' at f1 f2 f3 f4;have HX:=y37h hx;replace OA:=y37h (OA.out.later hb);replace OD:=y37h (OD.out.later hb);replace OT:=y37h (OT.out.later hb);replace BEL:=y37h (BEL.out.trans (hb.mono BEL.out.size));clear hst hor hx hb)
   try go_wp2_with fail
   refine hK.out _ _ (by exact ⟨OA.out.cell,OD.out.cell⟩) (fun hHeld=>?_)
   clear hK K
   try simp only [Act.put,y37a,y37b,y37c,y37d,y37e,y37f]
   refine wpAnyH_take (i:=5) (v:=?_) rfl (by kernel_rfl) (by kernel_rfl) (by kernel_rfl) (fun _ _ _ h=>h) (Or.inl ⟨by rfl,?_⟩) (by assumption) ?_
   rotate_left 1
   · (intro w hSw;(try dsimp only at hSw);go_simp;try with_reducible rfl)
   try simp only [Act.put,y37a,y37b,y37c,y37d,y37e,y37f]
   refine wpAnyH_take (i:=6) (v:=?_) rfl (by kernel_rfl) (by kernel_rfl) (by kernel_rfl) (fun _ _ _ h=>h) (Or.inl ⟨by rfl,?_⟩) (by assumption) ?_
   rotate_left 1
   · (intro w hSw;(try dsimp only at hSw);go_simp;try with_reducible rfl)
   try simp only [Act.put,y37a,y37b,y37c,y37d,y37e,y37f]
   refine wpAnyH_ready (rs:=[7]) (by kernel_rfl) (by simp) ?_
   refine AllReadyH.cons rfl (fun K hK=>?_) AllReadyH.nil
   try simp only [y37a,y37b,y37c]
   first | rw [if_pos (by rfl)] | skip
   have HK:=y37h (And.intro (OT.out.sets (stA U fv' sv' ov' kv').toList (by rfl)) (And.intro (zab (b:=w.heap.size + 1 + 1) (by omega) (stA U fv' sv' ov' kv').toList 0 BEL.out) (And.intro (HX.out.sets (b:=w.heap.size + 1 + 1) hB0.out (stA U fv' sv' ov' kv').toList) (And.intro (OA.out.setsFar (b:=w.heap.size + 1 + 1) (stA U fv' sv' ov' kv').toList 0 (by omega)) (OD.out.setsFar (b:=w.heap.size + 1 + 1) (stA U fv' sv' ov' kv').toList 0 (by omega))))))
   refine wp_store_mid 43 _ _ rfl (w.heap.size + 1 + 1) 0 (stA U fv' sv' ov' kv') (by rfl) (by rfl) (OT.out.there (by rfl)) (by kernel_rfl) (by simp [Value.oneCell',f1,f2,f3,f4]) ?_
   refine hK.out _ _ (by exact ⟨HK.out.2.2.2.1.cell,HK.out.2.2.2.2.cell⟩) (fun hHeld=>?_)
   clear hK K hHeld
   revert HK
   generalize World.setCells _ _ _ _ = WW
   intro HK
   have hHeld:=And.intro HK.out.2.2.2.1.cell HK.out.2.2.2.2.cell
   try simp only [Act.put,y37a,y37b,y37c,y37d,y37e,y37f]
   refine wpAnyH_take (i:=8) (v:=?_) rfl (by kernel_rfl) (by kernel_rfl) (by kernel_rfl) (fun _ _ _ h=>h) (Or.inl ⟨by rfl,?_⟩) (by assumption) ?_
   rotate_left 1
   · (intro w hSw;(try dsimp only at hSw);go_simp;try with_reducible rfl)
   try simp only [Act.put,y37a,y37b,y37c,y37d,y37e,y37f]
   refine wpAnyH_done (by kernel_rfl) ?_ _
   clear hHeld
   go_wp2_with fail
   exact zae (by rfl) (by rfl) (by rfl) HK.out.1.range Tryz.underlying43 (by rfl) (by kernel_rfl) rfl ⟨fv',sv',ov',kv',rfl,HK.out.2.2.1.mono (by first | (have:=hB3.out;omega) | (have:=hB0.out;omega)),HK.out.2.1⟩
def zf2 (s:St):Bool:=(decide (s.store.length + s.out.length ≤ 40) && (zbm s.store && zbm s.out)) && (!(s.store.any (zdt s)) && !(s.out.any (hasT s.f)))
def zf0 (s:St) (k:Nat):Bool:=(decide (s.k.star k ≤ s.count) && !(s.k.l.any (zea s k))) && (!(s.store.any (zbt s)) && !(s.out.any (zbt s)))
def zk5 (s:St):Bool:=((((inB s.r 1 8 && numS s) && Pr.mayB s.f) && zf2 s) && mayK zaz s.k) && zf0 s (s.r - 1).toNat
theorem zr1 (s:St):zk5 s = mayS s:=by
 rw [Bool.eq_iff_iff,mayS_iff]
 unfold zk5 zf2 zf0 numS
 simp only [Bool.and_eq_true,inB_iff,decide_eq_true_eq,Bool.not_eq_true',List.any_eq_false]
 constructor
 · rintro ⟨⟨⟨⟨⟨hr,hc,ht,he⟩,hf⟩,⟨hn,hs,ho⟩,hst,hin⟩,hk⟩,⟨hstar,hah⟩,hs2,ho2⟩
   refine ⟨hf,hs,ho,hk,hr,hn,hc,ht,he,fun i hi j hj e=>?_,fun i hi=>?_,fun i hi=>?_,?_⟩
   · have:=hst j hj
     unfold zdt at this
     rw [get_is.2 ⟨i,hi,e.symm⟩] at this
     simp at this
   · have h1:=hst i hi
     have h2:=hs2 i hi
     unfold zdt at h1
     unfold zbt at h2
     simp only [Bool.or_eq_true,Bool.not_eq_true',decide_eq_true_eq,not_or,Bool.not_eq_false] at h1 h2
     exact ⟨h1.2,h2.2,by omega⟩
   · have h1:=hin i hi
     have h2:=ho2 i hi
     unfold zbt at h2
     simp only [Bool.or_eq_true,Bool.not_eq_true',decide_eq_true_eq,not_or,Bool.not_eq_false] at h2
     exact ⟨by simpa using h1,h2.2,by omega⟩
   · rw [beyS_iff]
     refine ⟨zdu hc.1 fun _=>hstar,fun f hf=>zdu hc.1 fun _=>?_⟩
     have:=hah f hf
     unfold zea at this
     simp only [decide_eq_true_eq] at this
     omega
 · intro h
   have hb:=beyS_iff.1 h.b
   refine ⟨⟨⟨⟨⟨h.r,h.c,h.t,h.e⟩,h.f⟩,⟨h.n,h.st,h.ou⟩,fun i hi=>?_,fun i hi=>?_⟩,h.k⟩,⟨zjr hb.1 h.r,fun f hf=>?_⟩,fun i hi=>?_,fun i hi=>?_⟩
   · have h1:=(h.si i hi).has
     have h2:(getI s.out i.id).2 = false:=by
       cases q:(getI s.out i.id).2 with
       | false=>rfl
       | true=>obtain ⟨j,hj,e⟩:=get_is.1 q;exact absurd e.symm (h.tw j hj i hi)
     unfold zdt;rw [h1,h2];simp
   · rw [(h.so i hi).has];simp
   · have:=zjr (hb.2 f hf) h.r
     unfold zea;rw [decide_eq_true_eq];omega
   · have:=h.si i hi
     unfold zbt;rw [this.knows];have:=this.stamp;simp;omega
   · have:=h.so i hi
     unfold zbt;rw [this.knows];have:=this.stamp;simp;omega
theorem zmr (s:St) (fv sv ov kv:Value) (w:World) :
   Calls Tryz.prog 35 #[stV s fv sv ov kv] w fun e w'=>e = .returned (.bool (inB s.r 1 8 && numS s)) ∧ Below w.heap.size w w':=by
 have OA:=y37h (Own.new w (stA s fv sv ov kv) 43)
 have BE:=y37h ((Below.refl w.heap.size w).alloc (Nat.le_refl _) (.cells (stA s fv sv ov kv) 43))
 have W1:=fun w'=>y37h (zci s.r 1 8 w')
 have W2:=fun w'=>y37h (zci s.count 0 1000 w')
 have W3:=fun w'=>y37h (zci s.clock 0 1000000 w')
 have W4:=fun w'=>y37h (zci s.epoch 0 1000000 w')
 have e:(inB s.r 1 8 && numS s) = (inB s.r 1 8 && (inB s.count 0 1000 && (inB s.clock 0 1000000 && inB s.epoch 0 1000000))):=rfl
 rw [e]
 clear e
 have l0:=OA.out.cell
 have z0:=OA.out.lt
 generalize inB s.r 1 8 = b1 at *
 generalize inB s.count 0 1000 = b2 at *
 generalize inB s.clock 0 1000000 = b3 at *
 generalize inB s.epoch 0 1000000 = b4 at *
 cases b1
 · go_enter Tryz.func35,Tryz.ntmps35
   go_wp2_with fail
   refine (W1 _).out.mono ?_
   rintro e w' ⟨rfl,rfl⟩
   go_wp2_with fail
   go_ret
   exact ⟨rfl,BE.out⟩
 · cases b2
   · go_enter Tryz.func35,Tryz.ntmps35
     go_wp2_with fail
     refine (W1 _).out.mono ?_
     rintro e w' ⟨rfl,rfl⟩
     go_wp2_with fail
     refine (W2 _).out.mono ?_
     rintro e w' ⟨rfl,rfl⟩
     go_wp2_with fail
     go_ret
     exact ⟨rfl,BE.out⟩
   · cases b3
     · go_enter Tryz.func35,Tryz.ntmps35
       go_wp2_with fail
       refine (W1 _).out.mono ?_
       rintro e w' ⟨rfl,rfl⟩
       go_wp2_with fail
       refine (W2 _).out.mono ?_
       rintro e w' ⟨rfl,rfl⟩
       go_wp2_with fail
       refine (W3 _).out.mono ?_
       rintro e w' ⟨rfl,rfl⟩
       go_wp2_with fail
       go_ret
       exact ⟨rfl,BE.out⟩
     · go_enter Tryz.func35,Tryz.ntmps35
       go_wp2_with fail
       refine (W1 _).out.mono ?_
       rintro e w' ⟨rfl,rfl⟩
       go_wp2_with fail
       refine (W2 _).out.mono ?_
       rintro e w' ⟨rfl,rfl⟩
       go_wp2_with fail
       refine (W3 _).out.mono ?_
       rintro e w' ⟨rfl,rfl⟩
       go_wp2_with fail
       refine (W4 _).out.mono ?_
       rintro e w' ⟨rfl,rfl⟩
       go_wp2_with fail
       go_ret
       exact ⟨rfl,BE.out⟩
theorem zop (s:St) (fv sv ov kv:Value) (w:World) (hS:StW w s fv sv ov kv) (h1:s.store.length ≤ 1000) (h2:s.out.length ≤ 1000) :
   Calls Tryz.prog 37 #[stV s fv sv ov kv] w fun e w'=>e = .returned (.bool (zf2 s)) ∧ Below w.heap.size w w':=by
 obtain ⟨of_,cf,rfl⟩:=zal hS.lf
 obtain ⟨os,cs,rfl⟩:=hS.ls.val
 obtain ⟨oo,co,rfl⟩:=hS.lo.val
 obtain ⟨ok,ck,rfl⟩:=hS.lk.val
 have HOK1:=y37h hS.ls.oks
 have HOK2:=y37h hS.lo.oks
 have OS:StO (w.alloc (.cells (stA s (.slice of_ s.f.kids.length cf) (.slice os s.store.length cs) (.slice oo s.out.length co) (.slice ok s.k.l.length ck)) 43)) s (.slice of_ s.f.kids.length cf) (.slice os s.store.length cs) (.slice oo s.out.length co) (.slice ok s.k.l.length ck) w.heap.size:=⟨Own.new w _ _,hS.alloc _⟩
 have OS:=y37h OS
 have BE:=y37h ((Below.refl w.heap.size w).alloc (Nat.le_refl _) (.cells (stA s (.slice of_ s.f.kids.length cf) (.slice os s.store.length cs) (.slice oo s.out.length co) (.slice ok s.k.l.length ck)) 43))
 have M1:=fun w' h=>y37h (zg3 s.store (.slice os s.store.length cs) w' h h1)
 have M2:=fun w' h=>y37h (zg3 s.out (.slice oo s.out.length co) w' h h2)
 have CA:=fun w' (h:StO w' s (.slice of_ s.f.kids.length cf) (.slice os s.store.length cs) (.slice oo s.out.length co) (.slice ok s.k.l.length ck) w.heap.size) (hr:zao s.out)=>y37h (zgb (zdt s) s.store (.slice os s.store.length cs) w.heap.size w' h.w.ls (fun w'' hb x hx=>zm9 s _ _ _ _ w.heap.size x w'' (h.later hb) hr h2 (HOK1.out x hx).1))
 have CI:=fun w' (h:StO w' s (.slice of_ s.f.kids.length cf) (.slice os s.store.length cs) (.slice oo s.out.length co) (.slice ok s.k.l.length ck) w.heap.size)=>y37h (zgc (hasT s.f) s.out (.slice oo s.out.length co) w.heap.size w' h.w.lo (fun w'' hb x hx=>zn9 s _ _ _ _ w.heap.size x w'' (h.later hb) (HOK2.out x hx).1))
 have e:zf2 s = ((decide (s.store.length + s.out.length ≤ 40) && (zbm s.store && zbm s.out)) && (!(s.store.any (zdt s)) && !(s.out.any (hasT s.f)))):=rfl
 rw [e]
 have hr:zbm s.out = true → zao s.out:=fun h=>(mayLB_iff.1 h).2
 have HR:=y37h hr
 clear hS e hr
 have l0:=OS.out.o.cell
 have z0:=OS.out.o.lt
 generalize hA:s.store.any (zdt s) = bA at *
 generalize hB:s.out.any (hasT s.f) = bB at *
 generalize hC:zbm s.store = bC at *
 generalize hD:zbm s.out = bD at *
 clear hA hB hC hD
 by_cases hn:s.store.length + s.out.length ≤ 40
 · have g1:decide (40 < (s.store.length:Int) + (s.out.length:Int)) = false:=decide_eq_false (by omega)
   have g2:decide (s.store.length + s.out.length ≤ 40) = true:=decide_eq_true hn
   rw [g2]
   clear g2
   have M1:=M1 _ OS.out.w.ls
   generalize s.store.length = n1 at *
   generalize s.out.length = n2 at *
   cases bC
   · go_enter Tryz.func37,Tryz.ntmps37
     go_wp2_with fail
     refine M1.out.mono ?_
     rintro e w1 ⟨rfl,hb⟩
     clear l0 z0
     replace BE:=y37h (BE.out.trans (hb.mono BE.out.size))
     replace OS:=y37h (OS.out.later hb)
     clear hb
     have l0:=OS.out.o.cell
     have z0:=OS.out.o.lt
     go_wp2_with fail
     go_ret
     exact ⟨zaa (by simp),BE.out⟩
   · cases bD
     · go_enter Tryz.func37,Tryz.ntmps37
       go_wp2_with fail
       refine M1.out.mono ?_
       rintro e w1 ⟨rfl,hb⟩
       clear l0 z0
       replace BE:=y37h (BE.out.trans (hb.mono BE.out.size))
       replace OS:=y37h (OS.out.later hb)
       clear hb
       have l0:=OS.out.o.cell
       have z0:=OS.out.o.lt
       go_wp2_with fail
       refine (M2 _ OS.out.w.lo).out.mono ?_
       rintro e w2 ⟨rfl,hb⟩
       clear l0 z0
       replace BE:=y37h (BE.out.trans (hb.mono BE.out.size))
       replace OS:=y37h (OS.out.later hb)
       clear hb
       have l0:=OS.out.o.cell
       have z0:=OS.out.o.lt
       go_wp2_with fail
       go_ret
       exact ⟨zaa (by simp),BE.out⟩
     · have HR2:=y37h (HR.out rfl)
       clear HR
       cases bA
       · go_enter Tryz.func37,Tryz.ntmps37
         go_wp2_with fail
         refine M1.out.mono ?_
         rintro e w1 ⟨rfl,hb⟩
         clear l0 z0
         replace BE:=y37h (BE.out.trans (hb.mono BE.out.size))
         replace OS:=y37h (OS.out.later hb)
         clear hb
         have l0:=OS.out.o.cell
         have z0:=OS.out.o.lt
         go_wp2_with fail
         refine (M2 _ OS.out.w.lo).out.mono ?_
         rintro e w2 ⟨rfl,hb⟩
         clear l0 z0
         replace BE:=y37h (BE.out.trans (hb.mono BE.out.size))
         replace OS:=y37h (OS.out.later hb)
         clear hb
         have l0:=OS.out.o.cell
         have z0:=OS.out.o.lt
         go_wp2_with fail
         refine (CA _ OS.out HR2.out).out.mono ?_
         rintro e w3 ⟨rfl,hb⟩
         clear l0 z0
         replace BE:=y37h (BE.out.trans (hb.mono BE.out.size))
         replace OS:=y37h (OS.out.later hb)
         clear hb
         have l0:=OS.out.o.cell
         have z0:=OS.out.o.lt
         go_wp2_with fail
         refine (CI _ OS.out).out.mono ?_
         rintro e w4 ⟨rfl,hb⟩
         clear l0 z0
         replace BE:=y37h (BE.out.trans (hb.mono BE.out.size))
         replace OS:=y37h (OS.out.later hb)
         clear hb
         have l0:=OS.out.o.cell
         have z0:=OS.out.o.lt
         go_wp2_with fail
         go_ret
         exact ⟨zaa (by simp),BE.out⟩
       · go_enter Tryz.func37,Tryz.ntmps37
         go_wp2_with fail
         refine M1.out.mono ?_
         rintro e w1 ⟨rfl,hb⟩
         clear l0 z0
         replace BE:=y37h (BE.out.trans (hb.mono BE.out.size))
         replace OS:=y37h (OS.out.later hb)
         clear hb
         have l0:=OS.out.o.cell
         have z0:=OS.out.o.lt
         go_wp2_with fail
         refine (M2 _ OS.out.w.lo).out.mono ?_
         rintro e w2 ⟨rfl,hb⟩
         clear l0 z0
         replace BE:=y37h (BE.out.trans (hb.mono BE.out.size))
         replace OS:=y37h (OS.out.later hb)
         clear hb
         have l0:=OS.out.o.cell
         have z0:=OS.out.o.lt
         go_wp2_with fail
         refine (CA _ OS.out HR2.out).out.mono ?_
         rintro e w3 ⟨rfl,hb⟩
         clear l0 z0
         replace BE:=y37h (BE.out.trans (hb.mono BE.out.size))
         replace OS:=y37h (OS.out.later hb)
         clear hb
         have l0:=OS.out.o.cell
         have z0:=OS.out.o.lt
         go_wp2_with fail
         go_ret
         exact ⟨zaa (by simp),BE.out⟩
 · have g1:decide (40 < (s.store.length:Int) + (s.out.length:Int)) = true:=decide_eq_true (by omega)
   have g2:decide (s.store.length + s.out.length ≤ 40) = false:=decide_eq_false hn
   rw [g2]
   clear g2
   go_enter Tryz.func37,Tryz.ntmps37
   go_wp2_with fail
   go_ret
   exact ⟨zaa (by simp),BE.out⟩
theorem zpu (s:St) (fv sv ov kv:Value) (k:Nat) (hk:k < 8) (hr:s.r = (k:Int) + 1) (w:World) (hS:StW w s fv sv ov kv) :
   Calls Tryz.prog 39 #[stV s fv sv ov kv] w fun e w'=>e = .returned (.bool (zf0 s k)) ∧ Below w.heap.size w w':=by
 obtain ⟨of_,cf,rfl⟩:=zal hS.lf
 obtain ⟨os,cs,rfl⟩:=hS.ls.val
 obtain ⟨oo,co,rfl⟩:=hS.lo.val
 obtain ⟨ok,ck,rfl⟩:=hS.lk.val
 have HOK1:=y37h hS.ls.oks
 have HOK2:=y37h hS.lo.oks
 have OS0:StO (w.alloc (.cells (stA s (.slice of_ s.f.kids.length cf) (.slice os s.store.length cs) (.slice oo s.out.length co) (.slice ok s.k.l.length ck)) 43)) s (.slice of_ s.f.kids.length cf) (.slice os s.store.length cs) (.slice oo s.out.length co) (.slice ok s.k.l.length ck) w.heap.size:=⟨Own.new w _ _,hS.alloc _⟩
 have OS:=y37h OS0
 have BE:=y37h ((Below.refl w.heap.size w).alloc (Nat.le_refl _) (.cells (stA s (.slice of_ s.f.kids.length cf) (.slice os s.store.length cs) (.slice oo s.out.length co) (.slice ok s.k.l.length ck)) 43))
 have m1:=fun dd os_=>y37h (Calls.regrown_of (zhg (zea s k) s.k.l (.slice ok s.k.l.length ck) w.heap.size _ (OS0.w.regrown dd os_).lk (fun w'' hb j f u hf hT=>zpf s (.slice of_ s.f.kids.length cf) (.slice os s.store.length cs) (.slice oo s.out.length co) (.slice ok s.k.l.length ck) w.heap.size k hk hr f u w'' (((OS0.o.later (below_regrown _ dd os_)).later hb)) hT)))
 have m2:=fun dd os_=>y37h (Calls.regrown_of (zdk (zbt s) s.store (.slice os s.store.length cs) w.heap.size _ (OS0.w.regrown dd os_).ls (fun w'' hb x hx=>zhf s (.slice of_ s.f.kids.length cf) (.slice os s.store.length cs) (.slice oo s.out.length co) (.slice ok s.k.l.length ck) w.heap.size x w'' ((OS0.later (below_regrown _ dd os_)).later hb) (HOK1.out x hx).1)))
 have m3:=fun dd os_=>y37h (Calls.regrown_of (zdk (zbt s) s.out (.slice oo s.out.length co) w.heap.size _ (OS0.w.regrown dd os_).lo (fun w'' hb x hx=>zhf s (.slice of_ s.f.kids.length cf) (.slice os s.store.length cs) (.slice oo s.out.length co) (.slice ok s.k.l.length ck) w.heap.size x w'' ((OS0.later (below_regrown _ dd os_)).later hb) (HOK2.out x hx).1)))
 have L0:=fun dd os_=>(OS0.o.has.regrown dd os_ 0).trans (show _ = some (Value.int .i64 ((k:Int) + 1)) from by rw [← hr];rfl)
 have L6:=fun dd os_=>(OS0.o.has.regrown dd os_ 6).trans (show _ = some (Value.slice os s.store.length cs) from rfl)
 have L7:=fun dd os_=>(OS0.o.has.regrown dd os_ 7).trans (show _ = some (Value.slice oo s.out.length co) from rfl)
 have L8:=fun dd os_=>(OS0.o.has.regrown dd os_ (8 + k)).trans (zxd s (.slice of_ s.f.kids.length cf) (.slice os s.store.length cs) (.slice oo s.out.length co) (.slice ok s.k.l.length ck) hk)
 have L16:=fun dd os_=>(OS0.o.has.regrown dd os_ 16).trans (show _ = some (Value.slice ok s.k.l.length ck) from rfl)
 have L17:=fun dd os_=>(OS0.o.has.regrown dd os_ 17).trans (show _ = some (Value.int .i64 s.count) from rfl)
 have e:zf0 s k = ((decide (s.k.star k ≤ s.count) && !(s.k.l.any (zea s k))) && (!(s.store.any (zbt s)) && !(s.out.any (zbt s)))):=rfl
 rw [e]
 have zs:=OS0.o.lt
 have k0:(0:Int) ≤ (k:Int):=by omega
 have k1:(k:Int) < 8:=by omega
 have k2:(k:Int) + 1 - 1 = k:=by omega
 clear hS e hr OS0
 generalize hA:s.k.l.any (zea s k) = bA at *
 generalize hB:s.store.any (zbt s) = bB at *
 generalize hC:s.out.any (zbt s) = bC at *
 clear hA hB hC
 by_cases hn:s.k.star k ≤ s.count
 · have g1:decide (s.k.star k ≤ s.count) = true:=decide_eq_true hn
   rw [g1]
   cases bA
   · cases bB
     · go_enter Tryz.func39,Tryz.ntmps39
       go_upto_region 3 with fail
       refine wp_region_quiet_below (by kernel_rfl) (by kernel_rfl) ?_
       repeat (first | go_big_quiet_step (first | (with_reducible exact (m1 _ _).out) | (with_reducible exact (m2 _ _).out) | (with_reducible exact (m3 _ _).out)) | quiet_step (first | (with_reducible exact (m1 _ _).out) | (with_reducible exact (m2 _ _).out) | (with_reducible exact (m3 _ _).out)))
       refine wpQuiet_nil ?_
       intro w7 hw'
       have hb7:=zac hw'
       clear hw' m1 m2 m3 L0 L6 L7 L8 L16 L17
       go_wp2_with fail
       go_ret
       exact ⟨zaa (by simp),BE.out.trans (hb7.mono BE.out.size)⟩
     · go_enter Tryz.func39,Tryz.ntmps39
       go_upto_region 3 with fail
       refine wp_region_quiet_below (by kernel_rfl) (by kernel_rfl) ?_
       repeat (first | go_big_quiet_step (first | (with_reducible exact (m1 _ _).out) | (with_reducible exact (m2 _ _).out) | (with_reducible exact (m3 _ _).out)) | quiet_step (first | (with_reducible exact (m1 _ _).out) | (with_reducible exact (m2 _ _).out) | (with_reducible exact (m3 _ _).out)))
       refine wpQuiet_nil ?_
       intro w7 hw'
       have hb7:=zac hw'
       clear hw' m1 m2 m3 L0 L6 L7 L8 L16 L17
       go_wp2_with fail
       go_ret
       exact ⟨zaa (by simp),BE.out.trans (hb7.mono BE.out.size)⟩
   · go_enter Tryz.func39,Tryz.ntmps39
     go_upto_region 3 with fail
     refine wp_region_quiet_below (by kernel_rfl) (by kernel_rfl) ?_
     repeat (first | go_big_quiet_step (first | (with_reducible exact (m1 _ _).out) | (with_reducible exact (m2 _ _).out) | (with_reducible exact (m3 _ _).out)) | quiet_step (first | (with_reducible exact (m1 _ _).out) | (with_reducible exact (m2 _ _).out) | (with_reducible exact (m3 _ _).out)))
     refine wpQuiet_nil ?_
     intro w7 hw'
     have hb7:=zac hw'
     clear hw' m1 m2 m3 L0 L6 L7 L8 L16 L17
     go_wp2_with fail
     go_ret
     exact ⟨zaa (by simp),BE.out.trans (hb7.mono BE.out.size)⟩
 · have g1:decide (s.k.star k ≤ s.count) = false:=decide_eq_false hn
   rw [g1]
   go_enter Tryz.func39,Tryz.ntmps39
   go_upto_region 3 with fail
   refine wp_region_quiet_below (by kernel_rfl) (by kernel_rfl) ?_
   repeat (first | go_big_quiet_step (first | (with_reducible exact (m1 _ _).out) | (with_reducible exact (m2 _ _).out) | (with_reducible exact (m3 _ _).out)) | quiet_step (first | (with_reducible exact (m1 _ _).out) | (with_reducible exact (m2 _ _).out) | (with_reducible exact (m3 _ _).out)))
   refine wpQuiet_nil ?_
   intro w7 hw'
   have hb7:=zac hw'
   clear hw' m1 m2 m3 L0 L6 L7 L8 L16 L17
   go_wp2_with fail
   go_ret
   exact ⟨zaa (by simp),BE.out.trans (hb7.mono BE.out.size)⟩
theorem zkw (s:St) (fv sv ov kv:Value) (w:World) (hS:StW w s fv sv ov kv) (h1:s.store.length ≤ 1000) (h2:s.out.length ≤ 1000) (h3:(zaf s.k.l).length ≤ 10000) :
   Calls Tryz.prog 11 #[stV s fv sv ov kv] w fun e w'=>e = .returned (.bool (mayS s)) ∧ Below w.heap.size w w':=by
 obtain ⟨of_,cf,rfl⟩:=zal hS.lf
 obtain ⟨os,cs,rfl⟩:=hS.ls.val
 obtain ⟨oo,co,rfl⟩:=hS.lo.val
 obtain ⟨ok,ck,rfl⟩:=hS.lk.val
 have OS:StO (w.alloc (.cells (stA s (.slice of_ s.f.kids.length cf) (.slice os s.store.length cs) (.slice oo s.out.length co) (.slice ok s.k.l.length ck)) 43)) s (.slice of_ s.f.kids.length cf) (.slice os s.store.length cs) (.slice oo s.out.length co) (.slice ok s.k.l.length ck) w.heap.size:=⟨Own.new w _ _,hS.alloc _⟩
 have OS:=y37h OS
 have BE:=y37h ((Below.refl w.heap.size w).alloc (Nat.le_refl _) (.cells (stA s (.slice of_ s.f.kids.length cf) (.slice os s.store.length cs) (.slice oo s.out.length co) (.slice ok s.k.l.length ck)) 43))
 have N1:=fun w'=>y37h (zmr s (.slice of_ s.f.kids.length cf) (.slice os s.store.length cs) (.slice oo s.out.length co) (.slice ok s.k.l.length ck) w')
 have N2:=fun w' h=>y37h (zde s.f (.slice of_ s.f.kids.length cf) w' h)
 have N3:=fun w' h=>y37h (zop s (.slice of_ s.f.kids.length cf) (.slice os s.store.length cs) (.slice oo s.out.length co) (.slice ok s.k.l.length ck) w' h h1 h2)
 have N4:=fun w' h=>y37h (zmo zaz rfl s.k (.slice ok s.k.l.length ck) w' h h3)
 have N5:(inB s.r 1 8 && numS s) = true → ∀ w' (h:StW w' s (.slice of_ s.f.kids.length cf) (.slice os s.store.length cs) (.slice oo s.out.length co) (.slice ok s.k.l.length ck)),Hid (Calls Tryz.prog 39 #[(stV s (.slice of_ s.f.kids.length cf) (.slice os s.store.length cs) (.slice oo s.out.length co) (.slice ok s.k.l.length ck))] w' fun e w''=>e = .returned (.bool (zf0 s (s.r - 1).toNat)) ∧ Below w'.heap.size w' w''):=fun hn w' h=>by
   have hr:=inB_iff.1 (Bool.and_eq_true_iff.1 hn).1
   exact y37h (zpu s (.slice of_ s.f.kids.length cf) (.slice os s.store.length cs) (.slice oo s.out.length co) (.slice ok s.k.l.length ck) (s.r - 1).toNat (by omega) (by omega) w' h)
 have N5:=y37h N5
 have e:=zr1 s
 unfold zk5 at e
 rw [← e]
 clear hS e
 have l0:=OS.out.o.cell
 have z0:=OS.out.o.lt
 generalize (inB s.r 1 8 && numS s) = bA at *
 generalize Pr.mayB s.f = bB at *
 generalize zf2 s = bC at *
 generalize mayK zaz s.k = bD at *
 generalize zf0 s (s.r - 1).toNat = bE at *
 generalize s.store.length = n1 at *
 generalize s.out.length = n2 at *
 generalize s.k.l.length = n3 at *
 cases bA
 · go_enter Tryz.func11,Tryz.ntmps11
   go_wp2_with (first | (refine wpList_load_mid (by rfl) 43 _ (by rfl) w.heap.size 0 (by rfl) ((stA s (.slice of_ s.f.kids.length cf) (.slice os n1 cs) (.slice oo n2 co) (.slice ok n3 ck))).toList _ OS.out.o.range Tryz.underlying43 (by rfl) (by kernel_rfl) ?_) | fail)
   refine (N1 _).out.mono ?_
   rintro e w1 ⟨rfl,hb⟩
   clear l0 z0
   replace BE:=y37h (BE.out.trans (hb.mono BE.out.size))
   replace OS:=y37h (OS.out.later hb)
   clear hb
   have l0:=OS.out.o.cell
   have z0:=OS.out.o.lt
   go_wp2_with fail
   go_ret
   exact ⟨zaa (by simp),BE.out⟩
 · cases bB
   · go_enter Tryz.func11,Tryz.ntmps11
     go_wp2_with (first | (refine wpList_load_mid (by rfl) 43 _ (by rfl) w.heap.size 0 (by rfl) ((stA s (.slice of_ s.f.kids.length cf) (.slice os n1 cs) (.slice oo n2 co) (.slice ok n3 ck))).toList _ OS.out.o.range Tryz.underlying43 (by rfl) (by kernel_rfl) ?_) | fail)
     refine (N1 _).out.mono ?_
     rintro e w1 ⟨rfl,hb⟩
     clear l0 z0
     replace BE:=y37h (BE.out.trans (hb.mono BE.out.size))
     replace OS:=y37h (OS.out.later hb)
     clear hb
     have l0:=OS.out.o.cell
     have z0:=OS.out.o.lt
     go_wp2_with fail
     refine (N2 _ OS.out.w.lf).out.mono ?_
     rintro e w2 ⟨rfl,hb⟩
     clear l0 z0
     replace BE:=y37h (BE.out.trans (hb.mono BE.out.size))
     replace OS:=y37h (OS.out.later hb)
     clear hb
     have l0:=OS.out.o.cell
     have z0:=OS.out.o.lt
     go_wp2_with fail
     go_ret
     exact ⟨zaa (by simp),BE.out⟩
   · cases bC
     · go_enter Tryz.func11,Tryz.ntmps11
       go_wp2_with (first | (refine wpList_load_mid (by rfl) 43 _ (by rfl) w.heap.size 0 (by rfl) ((stA s (.slice of_ s.f.kids.length cf) (.slice os n1 cs) (.slice oo n2 co) (.slice ok n3 ck))).toList _ OS.out.o.range Tryz.underlying43 (by rfl) (by kernel_rfl) ?_) | fail)
       refine (N1 _).out.mono ?_
       rintro e w1 ⟨rfl,hb⟩
       clear l0 z0
       replace BE:=y37h (BE.out.trans (hb.mono BE.out.size))
       replace OS:=y37h (OS.out.later hb)
       clear hb
       have l0:=OS.out.o.cell
       have z0:=OS.out.o.lt
       go_wp2_with fail
       refine (N2 _ OS.out.w.lf).out.mono ?_
       rintro e w2 ⟨rfl,hb⟩
       clear l0 z0
       replace BE:=y37h (BE.out.trans (hb.mono BE.out.size))
       replace OS:=y37h (OS.out.later hb)
       clear hb
       have l0:=OS.out.o.cell
       have z0:=OS.out.o.lt
       go_wp2_with (first | (refine zcd (by rfl) 43 _ (by rfl) w.heap.size 0 (by rfl) ((stA s (.slice of_ s.f.kids.length cf) (.slice os n1 cs) (.slice oo n2 co) (.slice ok n3 ck))).toList _ OS.out.o.range Tryz.underlying43 (by rfl) (by kernel_rfl) ?_) | fail)
       refine (N3 _ OS.out.w).out.mono ?_
       rintro e w3 ⟨rfl,hb⟩
       clear l0 z0
       replace BE:=y37h (BE.out.trans (hb.mono BE.out.size))
       replace OS:=y37h (OS.out.later hb)
       clear hb
       have l0:=OS.out.o.cell
       have z0:=OS.out.o.lt
       go_wp2_with fail
       go_ret
       exact ⟨zaa (by simp),BE.out⟩
     · cases bD
       · go_enter Tryz.func11,Tryz.ntmps11
         go_wp2_with (first | (refine wpList_load_mid (by rfl) 43 _ (by rfl) w.heap.size 0 (by rfl) ((stA s (.slice of_ s.f.kids.length cf) (.slice os n1 cs) (.slice oo n2 co) (.slice ok n3 ck))).toList _ OS.out.o.range Tryz.underlying43 (by rfl) (by kernel_rfl) ?_) | fail)
         refine (N1 _).out.mono ?_
         rintro e w1 ⟨rfl,hb⟩
         clear l0 z0
         replace BE:=y37h (BE.out.trans (hb.mono BE.out.size))
         replace OS:=y37h (OS.out.later hb)
         clear hb
         have l0:=OS.out.o.cell
         have z0:=OS.out.o.lt
         go_wp2_with fail
         refine (N2 _ OS.out.w.lf).out.mono ?_
         rintro e w2 ⟨rfl,hb⟩
         clear l0 z0
         replace BE:=y37h (BE.out.trans (hb.mono BE.out.size))
         replace OS:=y37h (OS.out.later hb)
         clear hb
         have l0:=OS.out.o.cell
         have z0:=OS.out.o.lt
         go_wp2_with (first | (refine zcd (by rfl) 43 _ (by rfl) w.heap.size 0 (by rfl) ((stA s (.slice of_ s.f.kids.length cf) (.slice os n1 cs) (.slice oo n2 co) (.slice ok n3 ck))).toList _ OS.out.o.range Tryz.underlying43 (by rfl) (by kernel_rfl) ?_) | fail)
         refine (N3 _ OS.out.w).out.mono ?_
         rintro e w3 ⟨rfl,hb⟩
         clear l0 z0
         replace BE:=y37h (BE.out.trans (hb.mono BE.out.size))
         replace OS:=y37h (OS.out.later hb)
         clear hb
         have l0:=OS.out.o.cell
         have z0:=OS.out.o.lt
         go_wp2_with fail
         refine (N4 _ OS.out.w.lk).out.mono ?_
         rintro e w4 ⟨rfl,hb⟩
         clear l0 z0
         replace BE:=y37h (BE.out.trans (hb.mono BE.out.size))
         replace OS:=y37h (OS.out.later hb)
         clear hb
         have l0:=OS.out.o.cell
         have z0:=OS.out.o.lt
         go_wp2_with fail
         go_ret
         exact ⟨zaa (by simp),BE.out⟩
       · go_enter Tryz.func11,Tryz.ntmps11
         go_wp2_with (first | (refine wpList_load_mid (by rfl) 43 _ (by rfl) w.heap.size 0 (by rfl) ((stA s (.slice of_ s.f.kids.length cf) (.slice os n1 cs) (.slice oo n2 co) (.slice ok n3 ck))).toList _ OS.out.o.range Tryz.underlying43 (by rfl) (by kernel_rfl) ?_) | fail)
         refine (N1 _).out.mono ?_
         rintro e w1 ⟨rfl,hb⟩
         clear l0 z0
         replace BE:=y37h (BE.out.trans (hb.mono BE.out.size))
         replace OS:=y37h (OS.out.later hb)
         clear hb
         have l0:=OS.out.o.cell
         have z0:=OS.out.o.lt
         go_wp2_with fail
         refine (N2 _ OS.out.w.lf).out.mono ?_
         rintro e w2 ⟨rfl,hb⟩
         clear l0 z0
         replace BE:=y37h (BE.out.trans (hb.mono BE.out.size))
         replace OS:=y37h (OS.out.later hb)
         clear hb
         have l0:=OS.out.o.cell
         have z0:=OS.out.o.lt
         go_wp2_with (first | (refine zcd (by rfl) 43 _ (by rfl) w.heap.size 0 (by rfl) ((stA s (.slice of_ s.f.kids.length cf) (.slice os n1 cs) (.slice oo n2 co) (.slice ok n3 ck))).toList _ OS.out.o.range Tryz.underlying43 (by rfl) (by kernel_rfl) ?_) | fail)
         refine (N3 _ OS.out.w).out.mono ?_
         rintro e w3 ⟨rfl,hb⟩
         clear l0 z0
         replace BE:=y37h (BE.out.trans (hb.mono BE.out.size))
         replace OS:=y37h (OS.out.later hb)
         clear hb
         have l0:=OS.out.o.cell
         have z0:=OS.out.o.lt
         go_wp2_with fail
         refine (N4 _ OS.out.w.lk).out.mono ?_
         rintro e w4 ⟨rfl,hb⟩
         clear l0 z0
         replace BE:=y37h (BE.out.trans (hb.mono BE.out.size))
         replace OS:=y37h (OS.out.later hb)
         clear hb
         have l0:=OS.out.o.cell
         have z0:=OS.out.o.lt
         go_wp2_with (first | (refine zcd (by rfl) 43 _ (by rfl) w.heap.size 0 (by rfl) ((stA s (.slice of_ s.f.kids.length cf) (.slice os n1 cs) (.slice oo n2 co) (.slice ok n3 ck))).toList _ OS.out.o.range Tryz.underlying43 (by rfl) (by kernel_rfl) ?_) | fail)
         refine (N5.out (by first | trivial | rfl) _ OS.out.w).out.mono ?_
         rintro e w5 ⟨rfl,hb⟩
         clear l0 z0
         replace BE:=y37h (BE.out.trans (hb.mono BE.out.size))
         replace OS:=y37h (OS.out.later hb)
         clear hb
         have l0:=OS.out.o.cell
         have z0:=OS.out.o.lt
         go_wp2_with fail
         go_ret
         exact ⟨zaa (by simp),BE.out⟩
end Go.Proofs.YthnllikalobmeaaGreat
