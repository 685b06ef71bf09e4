/- Joined: RefSt3, RefSt4, StK, RefSt5. -/
import Derived.Test.YthnllikalobmeaaGreatJ17
import Derived.Test.YthnllikalobmeaaGreatJ01
import Derived.Deep.MidRow
import Derived.Laws.ResultCell
namespace Go.Proofs.YthnllikalobmeaaGreat
set_option linter.unusedVariables false
set_option linter.unusedSimpArgs false
set_option maxRecDepth 100000
set_option maxHeartbeats 8000000
open Go.RowKit
theorem y18h {p:Prop} (h:p):Hid p:=Lib.hid h
def zeh (s:St):List Itm:=s.store.filter (fun i=>!i.d)
def z10 (F:Nat → List Itm) (len:Nat) (X:Array Value) (w:World) (lv iv:Value) (wr:World):Prop :=
 ∃ (k:Nat) (sv:Value),k ≤ len ∧ iv = .int .i64 k ∧ sv = lv ∧ Hid (OwnI wr (w.heap.size + 1) (F k) sv) ∧ Hid (MkS w X wr)
theorem MkS.grown {w wr w':World} {X:Array Value} (h:MkS w X wr) {l:List Itm} {v:Value} (ho:OwnI wr (w.heap.size + 1) l v) (hg:wr.grownBy w' v.ownBlock):MkS w X w' :=
 have hb:Below (w.heap.size + 1) wr w':=(Below.refl _ _).grown hg (by have:=h.o1.lt;omega) fun k hk=>by have:=(World.ownsRow.lt ho k hk).1;omega
 ⟨h.o1.below hb (by omega),h.bel.trans (hb.mono (by omega))⟩
theorem znk (s:St) (fv sv ov kv:Value) (w:World) (hS:StW w s fv sv ov kv) (hlen:s.store.length ≤ 10000) :
   Calls Tryz.prog 22 #[stV s fv sv ov kv] w fun e w'=>∃ v',e = .returned v' ∧ OwnI w' w.heap.size (zeh s) v' ∧ Below w.heap.size w w':=by
 unfold zeh
 obtain ⟨oa,cap,b,o,rfl,hr⟩:=hS.ls
 obtain ⟨i0,hi,hz0,hz1,hz2⟩:=info_parts zca
 have HR:=y18h hr
 have hcap:=hr.len
 have hmax:=hr.max
 unfold maxLen at hmax
 clear hr hS
 generalize hl:s.store = l at *
 have HL:=y18h hl
 clear hl
 generalize hn:l.length = len at *
 have HN:=y18h hn
 clear hn
 have HI0:=y18h (show MkS w (stA s fv (.slice oa len cap) ov kv) (w.alloc (.cells (stA s fv (.slice oa len cap) ov kv) 43)) from ⟨Has.new w _ _,(Below.refl _ _).alloc (Nat.le_refl _) _⟩)
 go_enter Tryz.func22,Tryz.ntmps22
 go_wp2_with fail
 go_loopw [3,4] (fun lv iv wr=>z10 (fun k=>(l.take k).filter (fun i:Itm=>!i.d)) len (stA s fv (.slice oa len cap) ov kv) w lv iv wr) (fun _ iv _=>len - (intOf iv).toNat)
 case atStart=>exact ⟨0,_,Nat.zero_le _,rfl,rfl,by unfold Hid;exact OwnI.nil _ _,HI0⟩
 case round =>
   clear HI0
   obtain ⟨k,sv2,hk,rfl,rfl,HO,HS⟩:=hrel
   replace HO:=y18h (show OwnI wr (w.heap.size + 1) ((l.take k).filter (fun i:Itm=>!i.d)) sv2 from HO.out)
   have lOS:=HS.out.o1.cell
   have zOS:=HS.out.o1.lt
   by_cases hlt:k < len
   · obtain ⟨i,hi9⟩:∃ i,l[k]? = some i:=⟨_,List.getElem?_eq_getElem (by rw [HN.out];exact hlt)⟩
     obtain ⟨rfl,hb0⟩:=HR.out.at0 (by rw [HN.out];omega)
     obtain ⟨c0,c1,c2,c3,c4,c5,c6,c7⟩:=zav (w:=wr) (fun j u hu=>(HS.out.bel.cell (p:=⟨b,o + k * 8 + j,none⟩) hb0).trans (HR.out.cell k i hi9 j u hu))
     have zb:=Nat.lt_of_lt_of_le hb0 HS.out.bel.size
     have zw:=HS.out.bel.size
     have HI:=y18h hi9
     have HB0:=y18h hb0
     have k0:(0:Int) ≤ (k:Int):=by omega
     have k1:(k:Int) < (len:Int):=by omega
     clear hi9 hb0
     cases ht:i.d
     · rw [ht] at c7
       have hfl:=zgy (p:=(fun i:Itm=>!i.d)) (l:=l) (k:=k)
       have HF:=y18h (zgz (p:=(fun i:Itm=>!i.d)) HI.out (by rw [ht];rfl))
       have ei:i = ⟨i.id,i.r,i.c,i.st,i.kd,i.num,i.x,i.y,false⟩:=by rw [← ht]
       have HEI:=y18h ei
       clear ei
       have HO3:=y18h (HO.out.alloc (.cells #[.string i.id,.int .i64 i.r,.int .i64 i.c,.int .i64 i.st,.string i.kd,.int .i64 i.num,.complex .f64 i.x i.y,.bool false] 69))
       have HS3:=y18h (HS.out.alloc (.cells #[.string i.id,.int .i64 i.r,.int .i64 i.c,.int .i64 i.st,.string i.kd,.int .i64 i.num,.complex .f64 i.x i.y,.bool false] 69))
       have hown:(wr.alloc (.cells #[.string i.id,.int .i64 i.r,.int .i64 i.c,.int .i64 i.st,.string i.kd,.int .i64 i.num,.complex .f64 i.x i.y,.bool false] 69)).ownsRow (w.heap.size + 1) 69 8 sv2 ((l.take k).filter (fun i:Itm=>!i.d)).length (zas ((l.take k).filter (fun i:Itm=>!i.d))):=HO3.out
       go_wp2_with (at_builtin;refine wpList_append_lies _ (by rfl) _ _ _ (by rfl) (w.heap.size + 1) 69 i0 _ 8 88 Tryz.underlying41 hi hz0 hz1 hz2 rfl (by omega) sv2 ((l.take k).filter (fun i:Itm=>!i.d)).length (zas ((l.take k).filter (fun i:Itm=>!i.d))) (by rfl) hown ⟨wr.heap.size,0,none⟩ 1 1 (ic ⟨i.id,i.r,i.c,i.st,i.kd,i.num,i.x,i.y,false⟩) (by rfl) (by rfl) (zf1 (i:=⟨i.id,i.r,i.c,i.st,i.kd,i.num,i.x,i.y,false⟩)) (zcw _) (by omega) (by unfold maxLen;omega) (by omega) (by simp;omega) (wr.heap.size + 1) (by simp) ?_;intro g cap' w3 hown3 hgrow hat hlt3)
       have R1:=y18h (OwnI.push hown3 rfl)
       rw [← HEI.out] at R1
       have R2:=y18h (HS3.out.grown HO3.out hgrow)
       clear hown hown3 hgrow hat
       go_roundw
       case rel=>exact ⟨k + 1,_,by omega,by go_num,rfl,y18h (by show OwnI _ _ ((l.take (k + 1)).filter (fun i:Itm=>!i.d)) _;rw [HF.out];exact R1.out),R2⟩
       case measure=>simp [intOf];omega
     · rw [ht] at c7
       have HF:=y18h (zfs (p:=(fun i:Itm=>!i.d)) HI.out (by rw [ht];rfl))
       clear ht
       go_wp2_with fail
       go_roundw
       case rel=>exact ⟨k + 1,_,by omega,by go_num,rfl,y18h (by show OwnI _ _ ((l.take (k + 1)).filter (fun i:Itm=>!i.d)) _;rw [HF.out];exact HO.out),HS⟩
       case measure=>simp [intOf];omega
   · have e:len = k:=by omega
     subst e
     have h1:=HO.out
     rw [List.take_of_length_le (by rw [HN.out];omega)] at h1
     have H1:=y18h h1
     clear h1
     go_wp2_with fail
     go_ret
     exact ⟨_,rfl,H1.out.mono (by omega),HS.out.bel⟩
def zaf (s:St) (id:ByteArray):Itm × Bool:=getI (zat behT s.store s.out) id
theorem zd0 (s:St) (fv sv ov kv:Value) (id:ByteArray) (w:World) (hS:StW w s fv sv ov kv) (h1:s.store.length ≤ 1000) (h2:s.out.length ≤ 1000) :
   Calls Tryz.prog 25 #[stV s fv sv ov kv,.string id] w fun e w'=>e = .returned (.tuple #[iV (zaf s id).1,.bool (zaf s id).2]) ∧ Below w.heap.size w w':=by
 have OA:=y18h ((Own.new w (stA s fv sv ov kv) 43).alloc (.cells #[.string ⟨#[]⟩,.int .i64 0,.int .i64 0,.int .i64 0,.string ⟨#[]⟩,.int .i64 0,.complex .f64 0 0,.bool false] 69))
 have OH:=y18h (Own.newAt (w.alloc (.cells (stA s fv sv ov kv) 43)) #[.string ⟨#[]⟩,.int .i64 0,.int .i64 0,.int .i64 0,.string ⟨#[]⟩,.int .i64 0,.complex .f64 0 0,.bool false] 69 (b:=w.heap.size + 1) (by simp))
 have BEL:=y18h (((Below.refl w.heap.size w).alloc (Nat.le_refl _) (.cells (stA s fv sv ov kv) 43)).alloc (by simp) (.cells #[.string ⟨#[]⟩,.int .i64 0,.int .i64 0,.int .i64 0,.string ⟨#[]⟩,.int .i64 0,.complex .f64 0 0,.bool false] 69))
 have LS:=y18h ((hS.alloc (.cells (stA s fv sv ov kv) 43)).alloc (.cells #[.string ⟨#[]⟩,.int .i64 0,.int .i64 0,.int .i64 0,.string ⟨#[]⟩,.int .i64 0,.complex .f64 0 0,.bool false] 69))
 clear hS
 have CB:=fun w' h h'=>y18h (zkb behT zj8 s.store s.out sv ov w' h h' h1 h2)
 have CG:=fun v w' h=>y18h (zfl (zat behT s.store s.out) id v w' h)
 unfold zaf
 generalize getI (zat behT s.store s.out) id = gg at *
 obtain ⟨g,gb⟩:=gg
 simp only at CG ⊢
 generalize zat behT s.store s.out = B at *
 clear h1 h2
 have lOA:=OA.out.cell
 have zOA:=OA.out.lt
 go_enter Tryz.func25,Tryz.ntmps25
 go_wp2_with (first | (go_at_call 58;with_reducible refine (CB _ LS.out.ls LS.out.lo).out.mono ?_;rintro e w1 ⟨v2,rfl,hr,hb⟩;have LB:=y18h hr;replace OA:=y18h (OA.out.later hb);replace OH:=y18h (OH.out.later hb);replace BEL:=y18h (BEL.out.trans (hb.mono BEL.out.size));clear hr hb lOA zOA) | (go_at_call 27;with_reducible refine (CG _ _ LB.out).out.mono ?_;rintro e w2 ⟨rfl,hb⟩;replace OH:=y18h (OH.out.later hb);replace BEL:=y18h (BEL.out.trans (hb.mono BEL.out.size));clear hb;have l1:=OH.out.cell;have f1:=OH.out.free;have z1:=OH.out.lt) | fail)
 have key:=And.intro (zbl OH.out (.string g.id) (.int .i64 g.r) (.int .i64 g.c) (.int .i64 g.st) (.string g.kd) (.int .i64 g.num) (.complex .f64 g.x g.y) (.bool g.d)) (za3 (b:=w.heap.size + 1) BEL.out (by omega) (.string g.id) (.int .i64 g.r) (.int .i64 g.c) (.int .i64 g.st) (.string g.kd) (.int .i64 g.num) (.complex .f64 g.x g.y) (.bool g.d))
 clear l1 f1 z1
 unfold st8 at key
 revert key
 generalize World.setCell (World.setCell (World.setCell (World.setCell (World.setCell (World.setCell (World.setCell (World.setCell _ _ _) _ _) _ _) _ _) _ _) _ _) _ _) _ _ = WW
 rintro ⟨of,bf⟩
 have lf:=of.cell
 refine bodyPost_ret (v:=.tuple #[iV g,.bool gb]) (by simp [results,Tryz.results25,go_sem,lf]) rfl ⟨rfl,bf⟩
def zem (c:Array Value) (o:Nat):List Value → Array Value
 | []=>c
 | v :: r=>zem (c.setIfInBounds o v) (o + 1) r
theorem zqx (vs:List Value):∀ (c:Array Value) (o:Nat),(zem c o vs).size = c.size:=by
 induction vs with
 | nil=>intro c o;rfl
 | cons v r ih=>intro c o;rw [zem,ih];simp
theorem zs7 (vs:List Value):∀ (c:Array Value) (o j:Nat),j < c.size → (zem c o vs)[j]? = if o ≤ j ∧ j < o + vs.length then vs[j - o]? else c[j]?:=by
 induction vs with
 | nil=>intro c o j hj;rw [zem,if_neg (by simp only [List.length_nil];omega)]
 | cons v r ih =>
   intro c o j hj
   rw [zem,ih _ _ _ (by simpa using hj)]
   by_cases e:j = o
   · subst e
     rw [if_neg (by omega),if_pos (by simp)]
     simp [hj]
   · by_cases h:o + 1 ≤ j ∧ j < o + 1 + r.length
     · rw [if_pos h,if_pos (by simp only [List.length_cons];omega)]
       rw [show j - o = (j - (o + 1)) + 1 by omega,List.getElem?_cons_succ]
     · rw [if_neg h,if_neg (by simp only [List.length_cons];omega)]
       rw [Array.getElem?_setIfInBounds_ne (fun h'=>e h'.symm)]
theorem zs6 (c:Array Value) (vs:List Value) (h:vs.length = c.size):zem c 0 vs = vs.toArray:=by
 apply Array.ext_getElem?
 intro j
 by_cases hj:j < c.size
 · rw [zs7 vs c 0 j hj,if_pos (by omega)];simp
 · rw [Array.getElem?_eq_none (by rw [zqx];omega),Array.getElem?_eq_none (by simp;omega)]
theorem Own.setsAt {b:Nat} {t:TypeId} (vs:List Value):∀ {w:World} {c:Array Value} (o:Nat),Own w b c t → Own (w.setCells b o vs) b (zem c o vs) t:=by
 induction vs with
 | nil=>intro w c o h;exact h
 | cons v r ih=>intro w c o h;exact ih (o + 1) (h.set o v)
theorem Own.sets {w:World} {b:Nat} {c:Array Value} {t:TypeId} (h:Own w b c t) (vs:List Value) (hl:vs.length = c.size):Own (w.setCells b 0 vs) b vs.toArray t:=by
 rw [← zs6 c vs hl];exact h.setsAt vs 0
theorem Own.setsFar {b b':Nat} {t:TypeId} {c:Array Value} (vs:List Value):∀ {w:World} (o:Nat),b' ≠ b → Own w b' c t → Own (w.setCells b o vs) b' c t:=by
 induction vs with
 | nil=>intro w o _ h;exact h
 | cons v r ih=>intro w o hb h;exact ih (o + 1) hb (h.setFar _ _ hb)
theorem zab {b B:Nat} {a:World} (hB:B ≤ b) (vs:List Value):∀ {w:World} (o:Nat),Below B a w → Below B a (w.setCells b o vs):=by
 induction vs with
 | nil=>intro w o h;exact h
 | cons v r ih=>intro w o h;exact ih (o + 1) (h.setCell hB v)
theorem Own.there {w:World} {b:Nat} {c:Array Value} {t:TypeId} (h:Own w b c t) {n:Nat} (hn:n = c.size):w.there b 0 n:=fun j hj=>by
 rw [Nat.zero_add,h.cell j]
 exact ⟨by rw [Array.getElem?_eq_getElem (by omega)];rfl,h.free j⟩
theorem Own.range {w:World} {b:Nat} {l:List Value} {t:TypeId} (h:Own w b l.toArray t):w.rangeAt b 0 l:=fun j v hv=>by
 rw [Nat.zero_add,h.cell j];simpa using hv
theorem zlb {P:Program} (a:Addr) (w:World):(asAddr (.pointer (some a))).run P w = .ok a w:=by simp [asAddr]
theorem zae {P:Program} {fn:Func} {R:Ending → World → Prop} {a:Act} {w:World} {p u:Tmp} {ty:TypeId} {b:Nat} {l:List Value} {x:Value} {d:TypeDesc} (h:fn.results = #[.cell p ty,.tmp u])
   (hp:a.tmps.getD p undef = .pointer (some ⟨b,0,none⟩)) (hx:a.tmps.getD u undef = x) (hc:w.rangeAt b 0 l) (hu:P.underlying ty = some d) (hd:d.isRow = true) (hi:(P.info? ty).map (·.size) = some l.length)
   (hdf:a.defers = []) (hR:R (.returned (.tuple #[.agg l.toArray,x])) w):bodyPost P fn R .ret a w :=
 bodyPost_ret (by rw [results_cell_tmp h,hp,hx,zlb];simp only [Result.andThen_ok];rw [run_loadVar_mid w b 0 ty l d hc hu hd hi];rfl) hdf hR
theorem zfm {P:Program} {fn:Func} {R:Ending → World → Prop} {a:Act} {w:World} {p:Tmp} {ty:TypeId} {b:Nat} {l:List Value} {d:TypeDesc} (h:fn.results = #[.cell p ty])
   (hp:a.tmps.getD p undef = .pointer (some ⟨b,0,none⟩)) (hc:w.rangeAt b 0 l) (hu:P.underlying ty = some d) (hd:d.isRow = true) (hi:(P.info? ty).map (·.size) = some l.length)
   (hdf:a.defers = []) (hR:R (.returned (.agg l.toArray)) w):bodyPost P fn R .ret a w :=
 bodyPost_ret (by
   have e:=run_loadVar_mid (P:=P) w b 0 ty l d hc hu hd hi
   have hp2:a.tmps[p]?.getD undef = .pointer (some ⟨b,0,none⟩):=by rw [← hp];simp
   simp only [results,h]
   simp [Sem.run_bind,hp2,zlb,e]) hdf hR
def newS (r:Int) (f:Pr):St:=⟨r,f,[],[],⟨zad,[]⟩,0,0,0⟩
def znv:Pr:=.node 0 ⟨#[]⟩ 0 0 0 []
def zf7:St:=newS 0 znv
def zc9 (r:Int) (f:Pr):Bool:=Pr.mayB f && inB r 1 8
abbrev stN (r:Int) (f:Pr) (fv:Value):List Value:=[.int .i64 r,.int .i64 f.op,.string f.text,.int .i64 f.n,.complex .f64 f.x f.y,fv,.slice none 0 0,.slice none 0 0,.int .i64 0,.int .i64 0,.int .i64 0,.int .i64 0,.int .i64 0,.int .i64 0,.int .i64 0,.int .i64 0,.slice none 0 0,.int .i64 0,.int .i64 0,.int .i64 0]
abbrev stZ:List Value:=[.int .i64 0,.int .i64 0,.string ⟨#[]⟩,.int .i64 0,.complex .f64 0 0,.slice none 0 0,.slice none 0 0,.slice none 0 0,.int .i64 0,.int .i64 0,.int .i64 0,.int .i64 0,.int .i64 0,.int .i64 0,.int .i64 0,.int .i64 0,.slice none 0 0,.int .i64 0,.int .i64 0,.int .i64 0]
theorem zmq {w:World} {r:Int} {f:Pr} {fv:Value} (h:LP w f fv):StW w (newS r f) fv (.slice none 0 0) (.slice none 0 0) (.slice none 0 0) :=
 ⟨h,⟨none,0,0,0,rfl,Nat.le_refl _,by decide,fun h=>absurd h (by simp [newS]),fun k i hk=>by simp [newS] at hk,fun i hi=>by simp [newS] at hi⟩,
  ⟨none,0,0,0,rfl,Nat.le_refl _,by decide,fun h=>absurd h (by simp [newS]),fun k i hk=>by simp [newS] at hk,fun i hi=>by simp [newS] at hi⟩,
  ⟨fun _=>.nilFunc,none,0,0,0,rfl,Nat.le_refl _,by decide,fun h=>absurd h (by simp [newS]),fun k f hk=>by simp [newS] at hk,fun k f hk=>by simp [newS] at hk⟩⟩
theorem ztj (w:World):StW w zf7 (.slice none 0 0) (.slice none 0 0) (.slice none 0 0) (.slice none 0 0):=zmq (zg5 (by decide))
theorem zpq (r:Int) (f:Pr) (fv:Value) (w:World) (hL:LP w f fv) (hf:f.size ≤ 1000) :
   Calls Tryz.prog 15 #[.int .i64 r,prV f fv] w fun e w'=>((zc9 r f = true ∧ e = .returned (.tuple #[stV (newS r f) fv (.slice none 0 0) (.slice none 0 0) (.slice none 0 0),.int .i64 0])) ∨ (zc9 r f = false ∧ e = .returned (.tuple #[stV zf7 (.slice none 0 0) (.slice none 0 0) (.slice none 0 0) (.slice none 0 0),.int .i64 1]))) ∧ Below w.heap.size w w':=by
 obtain ⟨oq,cq,b,o,V,rfl,_,_,_,_,_,_⟩:=za9 hL
 have OP:=y18h ((Own.new w #[.int .i64 f.op,.string f.text,.int .i64 f.n,.complex .f64 f.x f.y,.slice oq f.kids.length cq] 40).alloc (.cells stZ.toArray 43))
 have O4:=y18h (Own.newAt (w.alloc (.cells #[.int .i64 f.op,.string f.text,.int .i64 f.n,.complex .f64 f.x f.y,.slice oq f.kids.length cq] 40)) stZ.toArray 43 (b:=w.heap.size + 1) (by simp))
 have BEL:=y18h (((Below.refl w.heap.size w).alloc (Nat.le_refl _) (.cells #[.int .i64 f.op,.string f.text,.int .i64 f.n,.complex .f64 f.x f.y,.slice oq f.kids.length cq] 40)).alloc (by simp) (.cells stZ.toArray 43))
 have LF:=y18h ((hL.atAlloc (.cells #[.int .i64 f.op,.string f.text,.int .i64 f.n,.complex .f64 f.x f.y,.slice oq f.kids.length cq] 40)).atAlloc (.cells stZ.toArray 43))
 clear hL
 have C1:=fun w' h=>y18h (zep f (.slice oq f.kids.length cq) w' h hf)
 have HE:=y18h (show zc9 r f = (Pr.mayB f && inB r 1 8) from rfl)
 generalize zc9 r f = ok at *
 generalize Pr.mayB f = x1 at *
 have lOP:=OP.out.cell
 have zOP:=OP.out.lt
 go_enter Tryz.func15,Tryz.ntmps15
 go_upto_region 2 with (first | (go_at_call 40;with_reducible refine (C1 _ LF.out).out.mono ?_;rintro e w1 ⟨rfl,hb⟩;replace OP:=y18h (OP.out.later hb);replace O4:=y18h (O4.out.later hb);replace BEL:=y18h (BEL.out.trans (hb.mono BEL.out.size));clear hb;replace lOP:=OP.out.cell;replace zOP:=OP.out.lt) | fail)
 clear C1
 by_cases hbad:x1 = false ∨ r < 1 ∨ 8 < r
 case pos =>
   have E:=y18h (show ok = false by
     rw [HE.out]
     rcases hbad with h | h | h
     · rw [h];rfl
     · unfold inB;rw [decide_eq_false (show ¬ 1 ≤ r by omega)];simp
     · unfold inB;rw [decide_eq_false (show ¬ r ≤ 8 by omega)];simp)
   have key:=And.intro (O4.out.sets stZ (by rfl)) (zab (b:=w.heap.size + 1) (Nat.le_succ _) stZ 0 BEL.out)
   have HK:=y18h key
   clear key
   have hways:x1 = false ∨ (x1 = true ∧ decide (r < 1) = true) ∨ (x1 = true ∧ decide (r < 1) = false ∧ decide (8 < r) = true):=by
     cases x1
     · exact .inl rfl
     · by_cases h:r < 1
       · exact .inr (.inl ⟨rfl,decide_eq_true h⟩)
       · refine .inr (.inr ⟨rfl,decide_eq_false h,decide_eq_true ?_⟩)
         rcases hbad with h' | h' | h'
         · cases h'
         · exact absurd h' h
         · exact h'
   clear hbad HE
   rcases hways with rfl | ⟨rfl,g1⟩ | ⟨rfl,g1,g2⟩
   all_goals
     go_wp2_with (first | (refine wpList_store_mid (by rfl) 43 _ _ (by rfl) (w.heap.size + 1) 0 stZ.toArray (by rfl) (by rfl) (O4.out.there (by rfl)) (by kernel_rfl) (by simp [Value.oneCell']) ?_) | fail)
     revert HK
     generalize World.setCells _ _ _ _ = WW
     intro HK
     refine zae (by rfl) (by rfl) (by rfl) HK.out.1.range Tryz.underlying43 (by rfl) (by kernel_rfl) rfl ⟨.inr ⟨E.out,rfl⟩,HK.out.2⟩
 have hx:x1 = true:=by cases x1;exact absurd (.inl rfl) hbad;rfl
 subst hx
 have g1:decide (r < 1) = false:=decide_eq_false fun h=>hbad (.inr (.inl h))
 have g2:decide (8 < r) = false:=decide_eq_false fun h=>hbad (.inr (.inr h))
 have E:=y18h (show ok = true by
   rw [HE.out]
   unfold inB
   rw [decide_eq_true (show 1 ≤ r from Int.not_lt.1 fun h=>hbad (.inr (.inl h))),decide_eq_true (show r ≤ 8 from Int.not_lt.1 fun h=>hbad (.inr (.inr h)))];rfl)
 clear hbad HE
 have HK:=y18h (And.intro (O4.out.sets (stN r f (.slice oq f.kids.length cq)) (by rfl)) (zab (b:=w.heap.size + 1) (Nat.le_succ _) (stN r f (.slice oq f.kids.length cq)) 0 BEL.out))
 go_wp2_with (first | (refine wpList_store_mid (by rfl) 43 _ _ (by rfl) (w.heap.size + 1) 0 (stN r f (.slice oq f.kids.length cq)).toArray (by rfl) (by rfl) (O4.out.there (by rfl)) (by kernel_rfl) (by simp [Value.oneCell']) ?_) | fail)
 revert HK
 generalize World.setCells _ _ _ _ = WW
 intro HK
 refine zae (by rfl) (by rfl) (by rfl) HK.out.1.range Tryz.underlying43 (by rfl) (by kernel_rfl) rfl ⟨.inl ⟨E.out,rfl⟩,HK.out.2⟩
end Go.Proofs.YthnllikalobmeaaGreat
