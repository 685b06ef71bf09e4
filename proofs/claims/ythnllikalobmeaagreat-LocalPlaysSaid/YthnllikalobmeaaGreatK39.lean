/- Joined: LocNew, LocV, StGood3, LocFM. -/
import Derived.Test.YthnllikalobmeaaGreatK37
import Derived.Test.YthnllikalobmeaaGreatK38
import Derived.Test.YthnllikalobmeaaGreatK21
import Derived.Test.YthnllikalobmeaaGreatK34
import Derived.Test.YthnllikalobmeaaGreatK33
import Derived.Test.YthnllikalobmeaaGreatK30
import Derived.Test.YthnllikalobmeaaGreatK22
import Derived.Test.YthnllikalobmeaaGreatK20
namespace Go.Proofs.YthnllikalobmeaaGreat
set_option linter.unusedVariables false
set_option linter.unusedSimpArgs false
set_option maxRecDepth 100000
set_option maxHeartbeats 8000000
open Go.RowKit
theorem y39h {p:Prop} (h:p):Hid p:=Lib.hid h
theorem zk4 (r:Int) (f:Pr) (fv:Value) (w:World) (hL:LP w f fv) (hf:f.size ≤ 60) :
   Calls Tryz.prog 13 #[.int .i64 r,prV f fv] w (Told errI f fv zgx (.slice none 0 0) (.slice none 0 0) (.slice none 0 0) (newT r f) (newE r f) w):=by
 obtain ⟨oq,cq,rfl⟩:=zal hL
 have OP:=y39h ((Own.new w #[.int .i64 f.op,.string f.text,.int .i64 f.n,.complex .f64 f.x f.y,.slice oq f.kids.length cq] 40).alloc (.cells stZ.toArray 43))
 have O4:=y39h (Own.newAt (w.alloc (.cells #[.int .i64 f.op,.string f.text,.int .i64 f.n,.complex .f64 f.x f.y,.slice oq f.kids.length cq] 40)) stZ.toArray 43 (b:=w.heap.size + 1) (by simp))
 have BE:=y39h (((Below.refl w.heap.size w).alloc (Nat.le_refl _) (.cells #[.int .i64 f.op,.string f.text,.int .i64 f.n,.complex .f64 f.x f.y,.slice oq f.kids.length cq] 40)).alloc (by simp) (.cells stZ.toArray 43))
 have LF:=y39h ((hL.atAlloc (.cells #[.int .i64 f.op,.string f.text,.int .i64 f.n,.complex .f64 f.x f.y,.slice oq f.kids.length cq] 40)).atAlloc (.cells stZ.toArray 43))
 clear hL
 have W1:=fun w'=>y39h (zci r 1 8 w')
 have W2:=fun w' h=>y39h (zde f (.slice oq f.kids.length cq) w' h)
 have W3:=fun w' h=>y39h (zdq f (.slice oq f.kids.length cq) w' h (by omega))
 have HE:=y39h (show zcu r f = (Pr.mayB f && inB r 1 8) from rfl)
 generalize Pr.mayB f = x1 at *
 generalize inB r 1 8 = x2 at *
 have l0:=OP.out.cell
 have z0:=OP.out.lt
 cases x2
 · rw [Bool.and_false] at HE
   have EE:=y39h (show newT r f = zgx ∧ newE r f = 1 from by unfold newT newE;rw [HE.out];exact ⟨rfl,rfl⟩)
   go_enter Tryz.func13,Tryz.ntmps13
   go_wp2_with fail
   refine (W1 _).out.mono ?_
   rintro e w1 ⟨rfl,rfl⟩
   have HK:=y39h (And.intro (O4.out.sets stZ (by rfl)) (zab (b:=w.heap.size + 1) (Nat.le_succ _) stZ 0 BE.out))
   go_wp2_with (first | (refine wpList_store_mid (by rfl) 43 _ _ (by rfl) (w.heap.size + 1) 0 stZ.toArray (by rfl) (by rfl) (O4.out.there (by rfl)) (by kernel_rfl) (by simp [Value.oneCell']) ?_) | fail)
   revert HK
   generalize World.setCells _ _ _ _ = WW
   intro HK
   refine zae (by rfl) (by rfl) (by rfl) HK.out.1.range Tryz.underlying43 (by rfl) (by kernel_rfl) rfl ?_
   rw [EE.out.1,EE.out.2]
   exact ⟨_,_,_,_,rfl,⟨.inr (zgl (by decide)),.inl ⟨rfl,rfl⟩,.inl ⟨rfl,rfl⟩,.inl ⟨rfl,rfl⟩⟩,HK.out.2⟩
 · cases x1
   · rw [Bool.and_true] at HE
     have EE:=y39h (show newT r f = zgx ∧ newE r f = 1 from by unfold newT newE;rw [HE.out];exact ⟨rfl,rfl⟩)
     go_enter Tryz.func13,Tryz.ntmps13
     go_wp2_with fail
     refine (W1 _).out.mono ?_
     rintro e w1 ⟨rfl,rfl⟩
     go_wp2_with fail
     refine (W2 _ LF.out).out.mono ?_
     rintro e w2 ⟨rfl,hb⟩
     clear l0 z0
     replace BE:=y39h (BE.out.trans (hb.mono BE.out.size))
     replace OP:=y39h (OP.out.later hb)
     replace O4:=y39h (O4.out.later hb)
     replace LF:=y39h (LF.out.later hb (Nat.le_refl _))
     clear hb
     have l0:=OP.out.cell
     have z0:=OP.out.lt
     have HK:=y39h (And.intro (O4.out.sets stZ (by rfl)) (zab (b:=w.heap.size + 1) (Nat.le_succ _) stZ 0 BE.out))
     go_wp2_with (first | (refine wpList_store_mid (by rfl) 43 _ _ (by rfl) (w.heap.size + 1) 0 stZ.toArray (by rfl) (by rfl) (O4.out.there (by rfl)) (by kernel_rfl) (by simp [Value.oneCell']) ?_) | fail)
     revert HK
     generalize World.setCells _ _ _ _ = WW
     intro HK
     refine zae (by rfl) (by rfl) (by rfl) HK.out.1.range Tryz.underlying43 (by rfl) (by kernel_rfl) rfl ?_
     rw [EE.out.1,EE.out.2]
     exact ⟨_,_,_,_,rfl,⟨.inr (zgl (by decide)),.inl ⟨rfl,rfl⟩,.inl ⟨rfl,rfl⟩,.inl ⟨rfl,rfl⟩⟩,HK.out.2⟩
   · rw [Bool.and_true] at HE
     have EE:=y39h (show newT r f = newS r f ∧ newE r f = 0 from by unfold newT newE;rw [HE.out];exact ⟨rfl,rfl⟩)
     go_enter Tryz.func13,Tryz.ntmps13
     go_wp2_with fail
     refine (W1 _).out.mono ?_
     rintro e w1 ⟨rfl,rfl⟩
     go_wp2_with fail
     refine (W2 _ LF.out).out.mono ?_
     rintro e w2 ⟨rfl,hb⟩
     clear l0 z0
     replace BE:=y39h (BE.out.trans (hb.mono BE.out.size))
     replace OP:=y39h (OP.out.later hb)
     replace O4:=y39h (O4.out.later hb)
     replace LF:=y39h (LF.out.later hb (Nat.le_refl _))
     clear hb
     have l0:=OP.out.cell
     have z0:=OP.out.lt
     go_wp2_with fail
     refine (W3 _ LF.out).out.mono ?_
     rintro e w3 ⟨v3,rfl,hl,hb⟩
     obtain ⟨o3,c3,rfl⟩:=zal hl.lp
     have L3:=y39h (hl.mono' (B':=w.heap.size + 2) (by have:=O4.out.lt;omega))
     clear l0 z0
     replace BE:=y39h (BE.out.trans (hb.mono BE.out.size))
     replace OP:=y39h (OP.out.later hb)
     replace O4:=y39h (O4.out.later hb)
     replace LF:=y39h (LF.out.later hb (Nat.le_refl _))
     clear hb hl
     have HK:=y39h (And.intro (O4.out.sets (stN r f (.slice o3 f.kids.length c3)) (by rfl)) (zab (b:=w.heap.size + 1) (Nat.le_succ _) (stN r f (.slice o3 f.kids.length c3)) 0 BE.out))
     have HL:=y39h ((L3.out.setsAt (b:=w.heap.size + 1) (by omega) (stN r f (.slice o3 f.kids.length c3)) 0).mono' (B':=w.heap.size) (by omega))
     go_wp2_with (first | (refine wpList_store_mid (by rfl) 43 _ _ (by rfl) (w.heap.size + 1) 0 (stN r f (.slice o3 f.kids.length c3)).toArray (by rfl) (by rfl) (O4.out.there (by rfl)) (by kernel_rfl) (by simp [Value.oneCell']) ?_) | fail)
     revert HK HL
     generalize World.setCells _ _ _ _ = WW
     intro HK HL
     refine zae (by rfl) (by rfl) (by rfl) HK.out.1.range Tryz.underlying43 (by rfl) (by kernel_rfl) rfl ?_
     rw [EE.out.1,EE.out.2]
     exact ⟨_,_,_,_,rfl,⟨.inr HL.out,.inl ⟨rfl,rfl⟩,.inl ⟨rfl,rfl⟩,.inl ⟨rfl,rfl⟩⟩,HK.out.2⟩
def gotI (s:St) (id:ByteArray):Itm × Bool:=if (getI s.store id).2 = true then getI s.store id else getI s.out id
theorem zn1 {s:St} (h:Good s) (id:ByteArray):gotI s id = zag s id:=by
 unfold gotI
 rcases zfq h id with ⟨i,hi,e,hq⟩ | ⟨i,hi,e,hq⟩ | ⟨h1,h2,hq⟩
 · have:=(zfz h.rs).1 hi
   rw [e] at this
   rw [hq,this];rfl
 · have h1:getI s.store id = (Itm.zero,false):=zc1 fun j hj e'=>h.tw i hi j hj (e'.trans e.symm)
   have h2:=(zfz h.ro).1 hi
   rw [e] at h2
   rw [hq,h1,h2];rfl
 · rw [hq,zc1 h1,zc1 h2];rfl
theorem zhr (s:St) (fv sv ov kv:Value) (id:ByteArray) (w:World) (hS:StW w s fv sv ov kv) (r1:zao s.store) (r2:zao s.out) (h1:s.store.length ≤ 1000) (h2:s.out.length ≤ 1000) (hid:id.size ≤ maxLen) :
   Calls Tryz.prog 67 #[stV s fv sv ov kv,.string id] w fun e w'=>e = .returned (.tuple #[iV (gotI s id).1,.bool (gotI s id).2]) ∧ Below w.heap.size w w':=by
 obtain ⟨of_,cf,rfl⟩:=zal hS.lf
 obtain ⟨os,cs,rfl⟩:=hS.ls.val
 obtain ⟨oo,co,rfl⟩:=hS.lo.val
 obtain ⟨ok,ck,rfl⟩:=hS.lk.val
 have OA:=y39h ((Own.new w (stA s (.slice of_ s.f.kids.length cf) (.slice os s.store.length cs) (.slice oo s.out.length co) (.slice ok s.k.l.length ck)) 43).alloc (.cells (iA Itm.zero) 69))
 have OT:=y39h (Own.newAt (w.alloc (.cells (stA s (.slice of_ s.f.kids.length cf) (.slice os s.store.length cs) (.slice oo s.out.length co) (.slice ok s.k.l.length ck)) 43)) (iA Itm.zero) 69 (b:=w.heap.size + 1) (by simp))
 have BE:=y39h (((Below.refl w.heap.size w).alloc (Nat.le_refl _) (.cells (stA s (.slice of_ s.f.kids.length cf) (.slice os s.store.length cs) (.slice oo s.out.length co) (.slice ok s.k.l.length ck)) 43)).alloc (by simp) (.cells (iA Itm.zero) 69))
 have HW:=y39h hS
 have G1:=fun w' h=>y39h (zef s.store id (.slice os s.store.length cs) w' h r1 h1 hid)
 have G2:=fun w' h=>y39h (zef s.out id (.slice oo s.out.length co) w' h r2 h2 hid)
 clear hS r1 r2 h1 h2 hid
 unfold gotI
 generalize getI s.store id = q1 at *
 generalize getI s.out id = q2 at *
 obtain ⟨x1,b1⟩:=q1
 obtain ⟨x2,b2⟩:=q2
 have l0:=OA.out.cell
 have z0:=OA.out.lt
 cases b1
 · go_enter Tryz.func67,Tryz.ntmps67
   go_wp2_with fail
   refine (G1 _ (HW.out.ls.later BE.out)).out.mono ?_
   rintro e w1 ⟨rfl,hb⟩
   clear l0 z0
   replace BE:=y39h (BE.out.trans (hb.mono BE.out.size))
   replace OA:=y39h (OA.out.later hb)
   replace OT:=y39h (OT.out.later hb)
   clear hb
   replace BE:=y39h (BE.out.alloc (by have:=BE.out.size;omega) (.cells (iA x1) 69))
   replace OA:=y39h (OA.out.alloc (.cells (iA x1) 69))
   replace OT:=y39h (OT.out.alloc (.cells (iA x1) 69))
   have l0:=OA.out.cell
   have z0:=OA.out.lt
   go_wp2_with fail
   refine (G2 _ (HW.out.lo.later BE.out)).out.mono ?_
   rintro e w3 ⟨rfl,hb⟩
   clear l0 z0
   have BE3:=y39h (BE.out.trans (hb.mono BE.out.size))
   have OT3:=y39h (OT.out.later hb)
   clear BE OA OT hb
   have HK:=y39h (And.intro (OT3.out.sets (ic x2) (by rfl)) (zab (b:=w.heap.size + 1) (by omega) (ic x2) 0 BE3.out))
   go_wp2_with (first | (refine wpList_store_mid (by rfl) 69 _ _ (by rfl) (w.heap.size + 1) 0 (iA x2) (by rfl) (by rfl) (OT3.out.there (by rfl)) (by kernel_rfl) (by simp [Value.oneCell']) ?_) | fail)
   revert HK
   generalize World.setCells _ _ _ _ = WW
   intro HK
   exact zae (by rfl) (by rfl) (by rfl) (l:=ic x2) HK.out.1.range Tryz.underlying69 (by rfl) (by kernel_rfl) rfl ⟨rfl,HK.out.2⟩
 · go_enter Tryz.func67,Tryz.ntmps67
   go_wp2_with fail
   refine (G1 _ (HW.out.ls.later BE.out)).out.mono ?_
   rintro e w1 ⟨rfl,hb⟩
   clear l0 z0
   replace BE:=y39h (BE.out.trans (hb.mono BE.out.size))
   replace OT:=y39h (OT.out.later hb)
   clear hb OA
   have O6:=y39h (Own.new w1 (iA x1) 69)
   have zw:=OT.out.lt
   replace BE:=y39h (BE.out.alloc (by have:=BE.out.size;omega) (.cells (iA x1) 69))
   replace OT:=y39h (OT.out.alloc (.cells (iA x1) 69))
   have HK:=y39h (And.intro (OT.out.sets (ic x1) (by rfl)) (zab (b:=w.heap.size + 1) (by omega) (ic x1) 0 BE.out))
   have l6:=O6.out.cell
   go_wp2_with (first | (refine wpList_store_mid (by rfl) 69 _ _ (by rfl) (w.heap.size + 1) 0 (iA x1) (by rfl) (by rfl) (OT.out.there (by rfl)) (by kernel_rfl) (by simp [Value.oneCell']) ?_) | fail)
   revert HK
   generalize World.setCells _ _ _ _ = WW
   intro HK
   exact zae (by rfl) (by rfl) (by rfl) (l:=ic x1) HK.out.1.range Tryz.underlying69 (by rfl) (by kernel_rfl) rfl ⟨rfl,HK.out.2⟩
abbrev zm4 (x:Itm):Itm:=⟨x.id,1,1,1,x.kd,x.num,x.x,x.y,x.d⟩
theorem zg4 (x:Itm) (w:World) :
   Calls Tryz.prog 68 #[iV x] w fun e w'=>e = .returned (.bool (mayT (zm4 x))) ∧ Below w.heap.size w w':=by
 have BE:=y39h ((Below.refl w.heap.size w).alloc (Nat.le_refl _) (.cells (iA (zm4 x)) 69))
 have M:=fun w'=>y39h (zj8 (zm4 x) w')
 generalize mayT (zm4 x) = b at *
 go_enter Tryz.func68,Tryz.ntmps68
 go_wp2_with (go_at_call 114;refine (M _).out.mono ?_;rintro e w3 ⟨rfl,hb3⟩)
 go_ret
 exact ⟨rfl,BE.out.trans (hb3.mono BE.out.size)⟩
theorem zja {s:St} {x:Itm} (h:Good s) (hx:mayT x = true) (hf:zbb s = false):mayT (zak s x) = true:=by
 obtain ⟨h1,h2,_,_,_,h6,h7⟩:=mayT_iff.1 hx
 obtain ⟨hc,ht⟩:=znx h hf
 have:=h.c
 have:=h.t
 refine mayT_iff.2 ⟨h1,h2,h.r,?_,?_,h6,h7⟩
 · show 1 ≤ s.count + 1 ∧ s.count + 1 ≤ 1000;omega
 · show 1 ≤ s.clock + 1 ∧ s.clock + 1 ≤ 1000000;omega
theorem zzr {s:St} {x:Itm} (h:creE s x = 0):mayT x = true ∧ zbb s = false ∧ ((zag s x.id).2 = true ∨ s.store.length + s.out.length ≠ 40):=by
 unfold creE at h
 split at h
 · rename_i h1
   split at h
   · cases h
   · split at h
     · cases h
     · rename_i h3
       split at h
       · cases h
       · rename_i h4
         refine ⟨h1,by simpa using h4,?_⟩
         cases q:(zag s x.id).2 with
         | true=>exact .inl rfl
         | false=>exact .inr fun e=>h3 ⟨q,e⟩
 · cases h
theorem z0o {s:St} {x:Itm} (h:updE s x = 0):mayT x = true ∧ zbb s = false ∧ (zag s x.id).2 = true:=by
 unfold updE at h
 split at h
 · rename_i h1
   split at h
   · rename_i h2
     split at h
     · cases h
     · rename_i h4;exact ⟨h1,by simpa using h4,h2.1⟩
   · cases h
 · cases h
theorem zta {s:St} {id:ByteArray} (h:delE s id = 0):zaz id = true ∧ zbb s = false ∧ (zag s id).2 = true ∧ (zag s id).1.d = false:=by
 unfold delE at h
 split at h
 · rename_i h1
   split at h
   · rename_i h2
     split at h
     · cases h
     · rename_i h4;exact ⟨h1,by simpa using h4,h2.1,h2.2⟩
   · cases h
 · cases h
theorem znk {s:St} {x:Itm} (h:Good s):Good (creS s x):=by
 unfold creS
 split
 · rename_i e
   obtain ⟨h1,h2,h3⟩:=zzr e
   refine zhw h (zja h h1 h2) h2 (h3.imp id fun q=>?_)
   have:=h.n;omega
 · exact h
theorem zxg {s:St} {x:Itm} (h:Good s):Good (updS s x):=by
 unfold updS
 split
 · rename_i e
   obtain ⟨h1,h2,h3⟩:=z0o e
   exact zhw h (zja h h1 h2) h2 (.inl h3)
 · exact h
theorem zvm {i:Itm} (h:mayT i = true):mayT (zfb i) = true:=h
theorem zvn {s:St} {id:ByteArray} (h:Good s):Good (delS s id):=by
 unfold delS
 split
 · rename_i e
   obtain ⟨_,h2,h3,_⟩:=zta e
   obtain ⟨m1,m2⟩:=zko h h3
   refine zhw h (zja h (zvm m1) h2) h2 (.inl ?_)
   show (zag s (zag s id).1.id).2 = true
   rw [m2];exact h3
 · exact h
theorem ztl {s:St} {f:Pr} (h:Good s):Good (filS s f):=by
 unfold filS
 split
 · rename_i e;exact zvq h e
 · exact h
theorem zqd {s:St} (h:Good s) (d:De):Good (doS s d):=by
 unfold doS
 split
 · exact znk h
 · split
   · exact zxg h
   · split
     · exact zvn h
     · exact ztl h
theorem zzz {s:St} {d:De} (h:doE s d ≠ 0):doS s d = s:=by
 unfold doE at h
 unfold doS
 split
 · rename_i q;rw [if_pos q] at h;unfold creS;rw [if_neg h]
 · rename_i q
   rw [if_neg q] at h
   split
   · rename_i q2;rw [if_pos q2] at h;unfold updS;rw [if_neg h]
   · rename_i q2
     rw [if_neg q2] at h
     split
     · rename_i q3;rw [if_pos q3] at h;unfold delS;rw [if_neg h]
     · rename_i q3;rw [if_neg q3] at h;unfold filS;rw [if_neg h]
theorem zyh {s:St} {d:De} (hG:Good s) (h:doE s d = 0) (hp:zbn d.what ≠ 3):∃ x,doS s d = zay s x ∧ x.id = d.id ∧ x.d = decide (zbn d.what = 2):=by
 have hp4:=zk7 d.what
 unfold doE at h
 unfold doS
 split
 · rename_i q
   rw [if_pos q] at h
   exact ⟨_,by unfold creS;rw [if_pos h],rfl,by rw [q];rfl⟩
 · rename_i q
   rw [if_neg q] at h
   split
   · rename_i q2
     rw [if_pos q2] at h
     exact ⟨_,by unfold updS;rw [if_pos h],rfl,by rw [q2];rfl⟩
   · rename_i q2
     rw [if_neg q2] at h
     split
     · rename_i q3
       rw [if_pos q3] at h
       refine ⟨zfb (zag s d.id).1,by unfold delS;rw [if_pos h],(zko hG (zta h).2.2.1).2,by rw [q3];rfl⟩
     · rename_i q3;exfalso;omega
theorem zz0 {s:St} {d:De} (h:doE s d = 0) (hp:zbn d.what = 3):doS s d = filF s d.f:=by
 unfold doE at h
 unfold doS
 rw [hp] at h ⊢
 simp only [show ((3:Int) = 0) = False by simp,show ((3:Int) = 1) = False by simp,show ((3:Int) = 2) = False by simp,if_false] at h ⊢
 unfold filS;rw [if_pos h]
def za1 (x:Itm):List Fr:=(zai (zap ⟨zad,[]⟩ x.id x.r x.c)).l
theorem zga (l:List Fr) (id:ByteArray) (j:Nat):beyB ⟨zad,l⟩ id j = if j < 8 then rawF l id j else 0:=by
 unfold beyB
 split
 · have:=zc9 l id j
   show (if rawF l id j ≤ zad j then 0 else rawF l id j) = _
   unfold zad
   split <;> omega
 · rfl
theorem zwo {A B:List Fr} (h:∀ id j,j < 8 → rawF A id j = rawF B id j):zai ⟨zad,A⟩ = zai ⟨zad,B⟩:=by
 have e:beyB ⟨zad,A⟩ = beyB ⟨zad,B⟩:=by
   funext id j
   rw [zga,zga]
   split
   · rename_i hj;exact h id j hj
   · rfl
 have:=zqx e
 unfold zai at *
 simp only at this
 rw [this]
theorem zl6 (l:List Fr) (id:ByteArray) {j:Nat} (hj:j < 8):rawF (zai ⟨zad,l⟩).l id j = rawF l id j:=by
 have h:=congrFun (congrFun (zhk ⟨zad,l⟩) id) j
 rw [show zai ⟨zad,l⟩ = ⟨zad,(zai ⟨zad,l⟩).l⟩ from rfl,zga,zga,if_pos hj,if_pos hj] at h
 exact h
theorem zui (x:Itm) (id:ByteArray) {j:Nat} (hj:j < 8):rawF (za1 x) id j = rawF [⟨[x.id],zav zad x.r x.c⟩] id j:=by
 have h:=zl6 [⟨[x.id],zav zad x.r x.c⟩] id hj
 unfold za1 zap
 rw [List.nil_append]
 exact h
theorem zy4 (L:List Fr) (x:Itm):zai (zap (zai ⟨zad,L⟩) x.id x.r x.c) = zai ⟨zad,L ++ za1 x⟩:=by
 have e0:zap (zai ⟨zad,L⟩) x.id x.r x.c = ⟨zad,(zai ⟨zad,L⟩).l ++ [⟨[x.id],zav zad x.r x.c⟩]⟩:=by unfold zap;rfl
 rw [e0]
 refine zwo fun id j hj=>?_
 have e1:=zl6 L id hj
 have e2:=zui x id hj
 rw [zkf,zkf]
 unfold maxV
 rw [e1,e2]
theorem z1i (m:List Itm):∀ (t:St) (L:List Fr),t.k = zai ⟨zad,L⟩ → (m.foldl filP t).k = zai ⟨zad,L ++ m.flatMap za1⟩:=by
 induction m with
 | nil=>intro t L h;simpa using h
 | cons x m ih =>
   intro t L h
   have h1:(filP t x).k = zai ⟨zad,L ++ za1 x⟩:=by
     have e0:(filP t x).k = zai (zap t.k x.id x.r x.c):=rfl
     rw [e0,h]
     exact zy4 L x
   rw [List.foldl_cons,ih _ _ h1,List.flatMap_cons,List.append_assoc]
theorem zke (x:Itm):(zaf (za1 x)).length ≤ 1 ∧ (za1 x).length ≤ 1:=by
 have h:=zd7 (zap ⟨zad,[]⟩ x.id x.r x.c)
 have e:(zaf (zap ⟨zad,[]⟩ x.id x.r x.c).l).length = 1:=by simp [zap,zaf]
 rw [e] at h
 exact h
theorem zfv (l:List Itm):(zaf (l.flatMap za1)).length ≤ l.length ∧ (l.flatMap za1).length ≤ l.length:=by
 induction l with
 | nil=>simp [zaf]
 | cons x l ih =>
   have h:=zke x
   simp only [List.flatMap_cons,zaf,List.flatMap_append,List.length_append,List.length_cons] at *
   omega
def filZ (s:St) (f:Pr):St:=⟨s.r,f,(zas behT s.store s.out).filter (fun x=>hasT f x),(zas behT s.store s.out).filter (fun x=>!hasT f x),⟨zad,(zai ⟨zad,(zas behT s.store s.out).flatMap za1⟩).l⟩,s.count,s.clock,s.epoch⟩
abbrev filC (s:St) (f:Pr):St:=⟨(filZ s f).r,(filZ s f).f,(filZ s f).store,(filZ s f).out,(filZ s f).k,(filZ s f).count,(filZ s f).clock,(filZ s f).epoch + 1⟩
theorem zqf {s:St} (h:Good s) (f:Pr):filF s f = filC s f:=by
 have F:=zqg h f
 have hr:zao (zas behT s.store s.out):=zeb s.out h.rs
 have e1:(filF s f).store = (filZ s f).store:=zh1 F.rs (zbf hr) fun i=>by
   rw [F.ms];simp [filZ,List.mem_filter]
 have e2:(filF s f).out = (filZ s f).out:=zh1 F.ro (zbf hr) fun i=>by
   rw [F.mo];simp [filZ,List.mem_filter]
 have e3:(filF s f).k = (filZ s f).k:=by
   unfold filF
   rw [z1i _ (filB s f) [] rfl]
   rfl
 calc filF s f = ⟨(filF s f).r,(filF s f).f,(filF s f).store,(filF s f).out,(filF s f).k,(filF s f).count,(filF s f).clock,(filF s f).epoch⟩:=rfl
   _ = filC s f:=by rw [e1,e2,e3,F.r,F.f,F.c,F.t,F.e];rfl
structure KL (w:World) (base:Nat) (o:List Fr) (U:Nat → Value) (Lv:Value):Prop where
 row:w.ownsRow base 105 9 Lv o.length (frCs U 0 o)
 ids:∀ i f,o[i]? = some f → OwnT w base f.ids (U i)
section
variable {w w':World} {base:Nat} {o:List Fr} {U:Nat → Value} {Lv:Value}
theorem KL.nil (w:World) (base:Nat) (U:Nat → Value):KL w base [] U (.slice none 0 0):=⟨World.ownsRow_nil _ _ _ _,fun i f h=>by simp at h⟩
theorem KL.later (h:KL w base o U Lv) (hb:Below w.heap.size w w'):KL w' base o U Lv:=⟨zau h.row hb,fun i f hf=>(h.ids i f hf).later hb⟩
theorem KL.kept {n size:Nat} {e:TypeId} {v:Value} {xs:List Value} {b0:Nat} (h:KL w base o U Lv) (hv:w.ownsRow b0 e size v n xs) (h1:105 ≠ e) (h2:9 ≠ e) (hg:w.grownBy w' v.ownBlock):KL w' base o U Lv :=
 ⟨h.row.kept hg (zbw h.row hv h1),fun i f hf=>World.ownsRow.kept (h.ids i f hf) hg (zbw (h.ids i f hf) hv h2)⟩
theorem KL.setLow (h:KL w base o U Lv) {a:Addr} (ha:a.block < base) (u:Value):KL (w.setCell a u) base o U Lv :=
 ⟨ownsRow_setCell_below h.row ha u,fun i f hf=>ownsRow_setCell_below (h.ids i f hf) ha u⟩
theorem KL.fr (h:KL w base o U Lv) (hok:∀ f ∈ o,∀ s ∈ f.ids,s.size ≤ maxLen):FrW w o Lv :=
 zse h.row fun i f hf=>(h.ids i f hf).tx (hok f (List.mem_of_getElem? hf))
def catU (n:Nat) (U V:Nat → Value):Nat → Value:=fun i=>if i < n then U i else V (i - n)
theorem zgj {U V:Nat → Value}:∀ (l:List Fr) (s t:Nat),(∀ i,i < l.length → U (s + i) = V (t + i)) → frCs U s l = frCs V t l
 | [],_,_,_=>rfl
 | f :: l,s,t,h=>by
   rw [frCs,frCs,zgj l (s + 1) (t + 1) (fun i hi=>by have:=h (i + 1) (by simp;omega);rwa [show s + (i + 1) = s + 1 + i by omega,show t + (i + 1) = t + 1 + i by omega] at this)]
   have:=h 0 (by simp)
   rw [Nat.add_zero,Nat.add_zero] at this
   rw [this]
theorem zvw (U V:Nat → Value) (o m:List Fr):frCs (catU o.length U V) 0 (o ++ m) = frCs U 0 o ++ frCs V 0 m:=by
 rw [zgi]
 congr 1
 · exact zgj o 0 0 fun i hi=>by unfold catU;rw [if_pos (by omega)]
 · exact zgj m _ 0 fun i hi=>by unfold catU;rw [if_neg (by omega)];congr 1;omega
theorem zlp {V:Nat → Value}:∀ (l:List Fr) (s:Nat),(∀ i,i < l.length → (V (s + i)).oneCell' = true) → ∀ u ∈ frCs V s l,u.oneCell' = true
 | [],_,_,u,hu=>by simp [frCs] at hu
 | f :: l,s,h,u,hu=>by
   rw [frCs,List.mem_append] at hu
   rcases hu with hu | hu
   · simp only [fc,List.mem_cons,List.not_mem_nil,or_false] at hu
     rcases hu with rfl | rfl | rfl | rfl | rfl | rfl | rfl | rfl | rfl
     · exact h 0 (by simp)
     all_goals rfl
   · exact zlp l (s + 1) (fun i hi=>by have:=h (i + 1) (by simp;omega);rwa [show s + (i + 1) = s + 1 + i by omega] at this) u hu
theorem KL.app {v9 pv:Value} {m:List Fr} {V:Nat → Value} {B8:Nat} (h:KL w base o U Lv) (hp:PK w B8 m V pv) (hB:base ≤ B8) (hown:w'.ownsRow base 105 9 v9 (o.length + m.length) (frCs U 0 o ++ frCs V 0 m)) (hg:w.grownBy w' Lv.ownBlock):KL w' base (o ++ m) (catU o.length U V) v9:=by
 refine ⟨by rw [zvw,List.length_append];exact hown,fun i f hf=>?_⟩
 unfold catU
 split
 · rename_i hi
   rw [List.getElem?_append_left hi] at hf
   exact World.ownsRow.kept (h.ids i f hf) hg (zbw (h.ids i f hf) h.row zfd)
 · rename_i hi
   rw [List.getElem?_append_right (by omega)] at hf
   have hm:=(hp.ids _ f hf).mono hB
   exact World.ownsRow.kept hm hg (zbw hm h.row zfd)
theorem zio (ty:TypeId) {v pv:Value} {m:List Fr} {V:Nat → Value} {B8:Nat} (h:KL w base o U v) (hp:PK w B8 m V pv) (hn:o.length + m.length ≤ 30000) (hbase:base ≤ w.heap.size) :
   ∃ v' w',(Builtin.append_ #[29,29] ty #[v,pv]).run Tryz.prog w = .ok v' w' ∧ w'.ownsRow base 105 9 v' (o.length + m.length) (frCs U 0 o ++ frCs V 0 m) ∧ w.grownBy w' v.ownBlock:=by
 obtain ⟨j0,hj,hy0,hy1,hy2⟩:=info_parts zcr
 obtain ⟨oa,cap,g,rfl,h1,h2,hg⟩:=zan hp.row
 obtain ⟨v',w',hr,ho,hgr⟩:=zcp 29 ty 105 j0 _ 9 88 Tryz.underlying29 hj hy0 hy1 hy2 rfl (by omega) h.row oa m.length cap (frCs V 0 m) (zcz V 0 m) (fun h0=>⟨g,0,(hg h0).1,fun j u hu=>by
   obtain ⟨rfl,_⟩:=hg h0
   have hj:=(List.getElem?_eq_some_iff.1 hu).1
   rw [zcz] at hj
   have hp':m[j / 9]? = some m[j / 9]:=List.getElem?_eq_getElem (by omega)
   have e:j = j / 9 * 9 + j % 9:=by omega
   rw [e,zck V 0 m _ _ hp' _ (by omega),Nat.zero_add] at hu
   have:=hp.at hp' _ _ hu
   rw [show j / 9 * 9 + j % 9 = j by omega] at this
   rw [Nat.zero_add]
   exact this⟩) (zlp m 0 fun i hi=>by
     rw [Nat.zero_add]
     obtain ⟨_,_,e⟩:=(hp.ids i _ (List.getElem?_eq_getElem hi)).val
     rw [e];rfl) hn (by omega) hbase
 exact ⟨v',w',hr,ho,hgr⟩
end
theorem zuu {w w':World} {l:List Itm} {v Lv:Value} {bk:Nat} (h:Row 8 ic w l v) (hk:Own w bk (knA zad Lv) 31) (hg:w.grownBy w' (some bk)):Row 8 ic w' l v:=by
 obtain ⟨oa,cap,b,o,e,h⟩:=h
 refine ⟨oa,cap,b,o,e,h.len,h.max,fun h0=>⟨(h.at0 h0).1,Nat.lt_of_lt_of_le (h.at0 h0).2 hg.size⟩,fun k i hi j u hu=>?_,h.ok⟩
 have hlt:=(h.at0 (by have:=zbq hi;omega)).2
 have hne:b ≠ bk:=by
   intro e
   subst e
   have h0:=h.cell k i hi 0 (.string i.id) rfl
   have h1:=h.cell k i hi 1 (.int .i64 i.r) rfl
   rw [hk.cell] at h0 h1
   have hlt':=(Array.getElem?_eq_some_iff.1 h1).1
   rw [Nat.add_zero] at h0
   generalize o + k * 8 = q at *
   simp only [List.size_toArray,List.length_cons,List.length_nil] at hlt'
   rcases (by omega:q = 0 ∨ q = 1 ∨ q = 2 ∨ q = 3 ∨ q = 4 ∨ q = 5 ∨ q = 6 ∨ q = 7) with rfl | rfl | rfl | rfl | rfl | rfl | rfl | rfl <;> simp at h0
 rw [zib hg hlt (by simpa using hne)]
 exact h.cell k i hi j u hu
structure FlS (wb:World) (bk:Nat) (l:List Itm) (f:Pr) (k:Nat) (sv ov Lv:Value) (wr:World):Prop where
 gr:wb.grownBy wr (some bk)
 kn:Own wr bk (knA zad Lv) 31
 kl:∃ U,KL wr wb.heap.size ((l.take k).flatMap za1) U Lv
 s:OwnI wr wb.heap.size ((l.take k).filter fun x=>hasT f x) sv
 o:OwnI wr wb.heap.size ((l.take k).filter fun x=>!hasT f x) ov
 ap:sv.ownBlock = none ∨ sv.ownBlock ≠ ov.ownBlock
def z04 (wb:World) (bk:Nat) (l:List Itm) (f:Pr) (n:Nat) (sv ov kv:Value) (wr:World):Prop :=
 ∃ (k:Nat) (Lv:Value),k ≤ n ∧ kv = .int .i64 k ∧ Hid (FlS wb bk l f k sv ov Lv wr)
structure FlM (wb:World) (bk:Nat) (l:List Itm) (f:Pr) (k:Nat) (x:Itm) (I:Nat) (sv ov Lv:Value) (W:World):Prop where
 gr:wb.grownBy W (some bk)
 kn:Own W bk (knA zad Lv) 31
 kl:∃ U,KL W wb.heap.size ((l.take (k + 1)).flatMap za1) U Lv
 s:OwnI W wb.heap.size ((l.take k).filter fun x=>hasT f x) sv
 o:OwnI W wb.heap.size ((l.take k).filter fun x=>!hasT f x) ov
 ap:sv.ownBlock = none ∨ sv.ownBlock ≠ ov.ownBlock
 i:Own W I (iA x) 69
theorem zdw {wb w w':World} {bk:Nat} {r:Option Nat} (h:wb.grownBy w (some bk)) (g:w.grownBy w' r) (hr:∀ k,r = some k → wb.heap.size ≤ k):wb.grownBy w' (some bk) :=
 ⟨g.os.trans h.os,g.tape.trans h.tape,g.output.trans h.output,Nat.le_trans h.size g.size,fun b hb hne=>(g.block b (Nat.lt_of_lt_of_le hb h.size) (fun e=>by have:=hr b e.symm;omega)).trans (h.block b hb hne)⟩
theorem zyr {wb w:World} {bk:Nat} (h:wb.grownBy w (some bk)) (q:Nat) (u:Value):wb.grownBy (w.setCell ⟨bk,q,none⟩ u) (some bk):=by
 refine ⟨h.os,h.tape,h.output,by simpa [World.setCell] using h.size,fun b hb hne=>?_⟩
 rw [Below.heap_setCell _ _ _ _ (by intro e;exact hne (by rw [e]))]
 exact h.block b hb hne
theorem zf9 {w w':World} (hb:Below w.heap.size w w'):w.grownBy w' none:=⟨hb.os,hb.tape,hb.output,hb.size,fun b h _=>hb.block b h⟩
theorem know_ne_frag:31 ≠ 105:=by decide
theorem know_ne_item:31 ≠ 69:=by decide
theorem item_ne_frag:69 ≠ 105:=by decide
theorem zh6:9 ≠ 69:=by decide
theorem zre (v9 Lv:Value):(knA zad Lv).setIfInBounds 8 v9 = knA zad v9:=by simp
section
variable {wb wr w7 w9 W W':World} {bk k I:Nat} {l:List Itm} {f:Pr} {x:Itm} {sv ov Lv v9:Value}
theorem FlS.mid {U V:Nat → Value} {pv:Value} {B8:Nat} (h:FlS wb bk l f k sv ov Lv wr) (hx:l[k]? = some x) (hbk:bk < wb.heap.size) (hb:Below (wr.heap.size + 1) (wr.alloc (.cells (iA x) 69)).drew w7) (hk:KL wr wb.heap.size ((l.take k).flatMap za1) U Lv) (hp:PK w7 B8 (za1 x) V pv) (hB:wb.heap.size ≤ B8)
   (hown:w9.ownsRow wb.heap.size 105 9 v9 (((l.take k).flatMap za1).length + (za1 x).length) (frCs U 0 ((l.take k).flatMap za1) ++ frCs V 0 (za1 x))) (hg:w7.grownBy w9 Lv.ownBlock) :
   FlM wb bk l f k x wr.heap.size sv ov v9 (w9.setCell ⟨bk,8,none⟩ v9):=by
 have hB7:Below wr.heap.size wr w7:=(((Below.refl _ _).alloc (Nat.le_refl _) (.cells (iA x) 69)).drew).trans (hb.mono (by omega))
 have hs:=h.gr.size
 have k7:=hk.later hB7
 have e:(l.take (k + 1)).flatMap za1 = (l.take k).flatMap za1 ++ za1 x:=by rw [zd9 hx];simp
 have hlow:(⟨bk,8,none⟩:Addr).block < wb.heap.size:=hbk
 have i7:Own w7 wr.heap.size (iA x) 69:=(Own.new wr (iA x) 69).drew.later (by simpa using hb)
 refine ⟨zyr (zdw (zdw h.gr (zf9 hB7) (by simp)) hg (fun k hk'=>(k7.row.lt k hk').1)) 8 v9,?_,?_,?_,?_,h.ap,?_⟩
 · have:=(((h.kn.later hB7).grown hg (za6 k7.row (h.kn.later hB7) know_ne_frag.symm)).set 8 v9)
   rw [zre] at this
   exact this
 · rw [e]
   exact ⟨_,(k7.app hp hB hown hg).setLow hlow v9⟩
 · exact ownsRow_setCell_below (World.ownsRow.kept (h.s.later hB7) hg (zbw (h.s.later hB7) k7.row item_ne_frag)) hlow v9
 · exact ownsRow_setCell_below (World.ownsRow.kept (h.o.later hB7) hg (zbw (h.o.later hB7) k7.row item_ne_frag)) hlow v9
 · exact (i7.grown hg (za6 k7.row i7 item_ne_frag.symm)).setFar _ _ (by show wr.heap.size ≠ bk;omega)
theorem FlM.later (h:FlM wb bk l f k x I sv ov Lv W) (hb:Below W.heap.size W W'):FlM wb bk l f k x I sv ov Lv W' :=
 ⟨zdw h.gr (zf9 hb) (by simp),h.kn.later hb,by obtain ⟨U,hk⟩:=h.kl;exact ⟨U,hk.later hb⟩,h.s.later hb,h.o.later hb,h.ap,h.i.later hb⟩
theorem FlM.inStore {g cap m:Nat} (h:FlM wb bk l f k x I sv ov Lv W) (hx:l[k]? = some x) (hh:hasT f x = true) (hm:((l.take k).filter fun x=>hasT f x).length = m) (ho:W'.ownsRow wb.heap.size 69 8 (.slice (some ⟨g,0,none⟩) (m + 1) cap) (m + 1) (zat ((l.take k).filter fun x=>hasT f x) ++ ic x)) (hg:(W.alloc (.cells (iA x) 69)).grownBy W' sv.ownBlock) (hn:sv.ownBlock = some g ∨ g = W.heap.size + 1) :
   FlS wb bk l f (k + 1) (.slice (some ⟨g,0,none⟩) (m + 1) cap) ov Lv W':=by
 have hB:Below W.heap.size W (W.alloc (.cells (iA x) 69)):=(Below.refl _ _).alloc (Nat.le_refl _) _
 have s':=h.s.later hB
 have o':=h.o.later hB
 have k':=h.kn.later hB
 have e1:((l.take (k + 1)).filter fun x=>hasT f x) = ((l.take k).filter fun x=>hasT f x) ++ [x]:=by rw [zd9 hx,List.filter_append];simp [hh]
 have e2:((l.take (k + 1)).filter fun x=>!hasT f x) = ((l.take k).filter fun x=>!hasT f x):=by rw [zd9 hx,List.filter_append];simp [hh]
 have hap:ov.ownBlock = none ∨ ov.ownBlock ≠ sv.ownBlock:=by
   rcases h.ap with e | e
   · rw [e]
     cases hq:ov.ownBlock with
     | none=>exact .inl rfl
     | some b=>exact .inr (by simp)
   · exact .inr (Ne.symm e)
 refine ⟨zdw (zdw h.gr (zf9 hB) (by simp)) hg (fun k hk=>(World.ownsRow.lt s' k hk).1),k'.grown hg (za6 s' k' know_ne_item.symm),?_,?_,?_,?_⟩
 · obtain ⟨U,hk⟩:=h.kl
   exact ⟨U,(hk.later hB).kept s' item_ne_frag.symm zh6 hg⟩
 · rw [e1]
   exact OwnI.push ho (by rw [hm])
 · rw [e2]
   exact World.ownsRow.kept o' hg hap
 · right
   show some g ≠ ov.ownBlock
   rcases hn with hn | hn
   · rw [← hn]
     rcases hap with e | e
     · rw [e,hn];simp
     · exact Ne.symm e
   · intro e
     have:=(World.ownsRow.lt h.o g e.symm).2
     omega
theorem FlM.inOut {g cap m:Nat} (h:FlM wb bk l f k x I sv ov Lv W) (hx:l[k]? = some x) (hh:hasT f x = false) (hm:((l.take k).filter fun x=>!hasT f x).length = m) (ho:W'.ownsRow wb.heap.size 69 8 (.slice (some ⟨g,0,none⟩) (m + 1) cap) (m + 1) (zat ((l.take k).filter fun x=>!hasT f x) ++ ic x)) (hg:(W.alloc (.cells (iA x) 69)).grownBy W' ov.ownBlock) (hn:ov.ownBlock = some g ∨ g = W.heap.size + 1) :
   FlS wb bk l f (k + 1) sv (.slice (some ⟨g,0,none⟩) (m + 1) cap) Lv W':=by
 have hB:Below W.heap.size W (W.alloc (.cells (iA x) 69)):=(Below.refl _ _).alloc (Nat.le_refl _) _
 have s':=h.s.later hB
 have o':=h.o.later hB
 have k':=h.kn.later hB
 have e1:((l.take (k + 1)).filter fun x=>hasT f x) = ((l.take k).filter fun x=>hasT f x):=by rw [zd9 hx,List.filter_append];simp [hh]
 have e2:((l.take (k + 1)).filter fun x=>!hasT f x) = ((l.take k).filter fun x=>!hasT f x) ++ [x]:=by rw [zd9 hx,List.filter_append];simp [hh]
 refine ⟨zdw (zdw h.gr (zf9 hB) (by simp)) hg (fun k hk=>(World.ownsRow.lt o' k hk).1),k'.grown hg (za6 o' k' know_ne_item.symm),?_,?_,?_,?_⟩
 · obtain ⟨U,hk⟩:=h.kl
   exact ⟨U,(hk.later hB).kept o' item_ne_frag.symm zh6 hg⟩
 · rw [e1]
   exact World.ownsRow.kept s' hg h.ap
 · rw [e2]
   exact OwnI.push ho (by rw [hm])
 · rcases h.ap with e | e
   · exact .inl e
   · right
     show sv.ownBlock ≠ some g
     rcases hn with hn | hn
     · rw [← hn];exact e
     · intro e'
       have:=(World.ownsRow.lt h.s g e').2
       omega
end
theorem zz4 (a0 a1 a2 a3 a4 a5 a6 a7:Value) (oa:Option Addr) (n c:Nat) (w:World):(Instr.field 31 (.agg #[a0,a1,a2,a3,a4,a5,a6,a7,.slice oa n c]) 1).run Tryz.prog w = .ok (.slice oa n c) w:=by
 simp [Instr.field,run_underlying Tryz.underlying31,part,asAgg,Result.andThen]
theorem zu0 (s:St) (fv sv ov kv v:Value) (A:Nat → Int) (l:List Fr) :
   (((((((((stA s fv sv ov kv).setIfInBounds 8 (.int .i64 (A 0))).setIfInBounds 9 (.int .i64 (A 1))).setIfInBounds 10 (.int .i64 (A 2))).setIfInBounds 11 (.int .i64 (A 3))).setIfInBounds 12 (.int .i64 (A 4))).setIfInBounds 13 (.int .i64 (A 5))).setIfInBounds 14 (.int .i64 (A 6))).setIfInBounds 15 (.int .i64 (A 7))).setIfInBounds 16 v = stA (⟨s.r,s.f,s.store,s.out,⟨A,l⟩,s.count,s.clock,s.epoch⟩:St) fv sv ov v:=by simp
theorem zug {X:World} {b:Nat} {s:St} {fv sv ov kv:Value} (h:Own X b (stA s fv sv ov kv) 43) (A:Nat → Int) (l:List Fr) (v:Value) :
   Own (X.setCells b 8 [.int .i64 (A 0),.int .i64 (A 1),.int .i64 (A 2),.int .i64 (A 3),.int .i64 (A 4),.int .i64 (A 5),.int .i64 (A 6),.int .i64 (A 7),v]) b (stA (⟨s.r,s.f,s.store,s.out,⟨A,l⟩,s.count,s.clock,s.epoch⟩:St) fv sv ov v) 43:=by
 have h2:=((((((((h.set 8 (.int .i64 (A 0))).set 9 (.int .i64 (A 1))).set 10 (.int .i64 (A 2))).set 11 (.int .i64 (A 3))).set 12 (.int .i64 (A 4))).set 13 (.int .i64 (A 5))).set 14 (.int .i64 (A 6))).set 15 (.int .i64 (A 7))).set 16 v
 rw [zu0 s fv sv ov kv v A l] at h2
 generalize stA (⟨s.r,s.f,s.store,s.out,⟨A,l⟩,s.count,s.clock,s.epoch⟩:St) fv sv ov v = cA at *
 exact h2
theorem zfu {P:Program} {ops:Array Oper} {Q:Exit → Act → World → Prop} {md:Region.Mode} {S T:World → Prop} {D:Nat → Bool} {i:Nat} {o:Oper} {n:Nat} {l:Array Bool} {a:Act} {w:World} (hr:Region.ready md ops l = [i]) (ho:ops[i]? = some o) (hg:o.guard = none)
   (ty:TypeId) (x y:Operand) (hop:o.op = .store ty x y) (b off:Nat) (cells:Array Value) (hx:a.eval x = .pointer (some ⟨b,off,none⟩)) (hy:a.eval y = .agg cells)
   (ht:w.there b off cells.size) (hi:(P.info? ty).map (·.size) = some cells.size) (h1:cells.all (·.oneCell') = true)
   (hS:D i = false → S (w.setCells b off cells.toList)) (hT:T (w.setCells b off cells.toList)) (h:T (w.setCells b off cells.toList) → zcn P md ops Q S T D n (l.setIfInBounds i true) (a.put o.dst undef) (w.setCells b off cells.toList)):zcn P md ops Q S T D (n + 1) l a w :=
 za3 hr ho fun K hK=>by
   rw [if_pos (by simp [Region.wanted,hg])]
   exact wp_store_mid ty x y hop b off cells hx hy ht hi h1 (hK.out _ _ hS hT fun _ h2=>h h2)
end Go.Proofs.YthnllikalobmeaaGreat
