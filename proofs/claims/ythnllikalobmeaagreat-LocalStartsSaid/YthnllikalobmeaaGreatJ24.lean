/- Joined: StN, RefSt7, RefSt8. -/
import Derived.Test.YthnllikalobmeaaGreatJ23
import Derived.Test.YthnllikalobmeaaGreatJ18
namespace Go.Proofs.YthnllikalobmeaaGreat
set_option linter.unusedVariables false
set_option linter.unusedSimpArgs false
set_option maxRecDepth 100000
set_option maxHeartbeats 8000000
open Go.RowKit
theorem y24h {p:Prop} (h:p):Hid p:=Lib.hid h
def LPF (w:World) (B:Nat) (p:Pr) (v:Value):Prop:=Lies 5 pc (fun b=>B ≤ b ∧ b < w.heap.size) w p v
theorem LPF.lp {w:World} {B:Nat} {p:Pr} {v:Value} (h:LPF w B p v):LP w p v:=h.mono (fun _ _ _=>rfl) fun _ h=>h.2
theorem LPF.later {w w':World} {B:Nat} {p:Pr} {v:Value} (h:LPF w B p v) (hb:Below w.heap.size w w'):LPF w' B p v :=
 h.mono (fun b o hS=>hb.cell (p:=⟨b,o,none⟩) hS.2) fun _ hS=>⟨hS.1,Nat.lt_of_lt_of_le hS.2 hb.size⟩
theorem LPF.mono' {w:World} {B B':Nat} {p:Pr} {v:Value} (h:LPF w B p v) (hb:B' ≤ B):LPF w B' p v:=h.mono (fun _ _ _=>rfl) fun _ h=>⟨Nat.le_trans hb h.1,h.2⟩
theorem LPF.sets {w:World} {B b:Nat} {p:Pr} {v:Value} (h:LPF w B p v) (hb:b < B) (vs:List Value):LPF (w.setCells b 0 vs) B p v :=
 h.mono (fun b' o hS=>World.cell?_setCells_out b vs 0 w ⟨b',o,none⟩ (fun e _=>by have:=hS.1;simp only at e;omega)) fun _ hS=>⟨hS.1,Nat.lt_of_lt_of_le hS.2 (zab (B:=b) (Nat.le_refl _) vs 0 (Below.refl b w)).size⟩
structure StN (w:World) (B:Nat) (p:Pr) (pv:Value) (l:List Itm) (sv:Value) (m:List Itm) (ov:Value) (k:List Fr) (kv:Value) (U:St) (fv' sv' ov' kv':Value):Prop where
 f:(U.f = p ∧ fv' = pv) ∨ LPF w B U.f fv'
 st:(U.store = l ∧ sv' = sv) ∨ RowF w B U.store sv'
 ou:(U.out = m ∧ ov' = ov) ∨ RowF w B U.out ov'
 k:(U.k.l = k ∧ kv' = kv) ∨ FrFresh w B U.k.l kv'
section
variable {w:World} {B:Nat} {p:Pr} {pv:Value} {l:List Itm} {sv:Value} {m:List Itm} {ov:Value} {k:List Fr} {kv:Value} {U:St} {fv' sv' ov' kv':Value}
theorem StN.later {w':World} (h:StN w B p pv l sv m ov k kv U fv' sv' ov' kv') (hb:Below w.heap.size w w'):StN w' B p pv l sv m ov k kv U fv' sv' ov' kv' :=
 ⟨h.f.imp id fun h=>h.later hb,h.st.imp id fun h=>h.later hb,h.ou.imp id fun h=>h.later hb,h.k.imp id fun h=>h.stays hb⟩
theorem StN.mono {B':Nat} (h:StN w B p pv l sv m ov k kv U fv' sv' ov' kv') (hb:B' ≤ B):StN w B' p pv l sv m ov k kv U fv' sv' ov' kv' :=
 ⟨h.f.imp id fun h=>h.mono' hb,h.st.imp id fun h=>h.mono hb,h.ou.imp id fun h=>h.mono hb,h.k.imp id fun h=>h.mono hb⟩
theorem StN.sets {b:Nat} (h:StN w B p pv l sv m ov k kv U fv' sv' ov' kv') (hb:b < B) (vs:List Value):StN (w.setCells b 0 vs) B p pv l sv m ov k kv U fv' sv' ov' kv' :=
 ⟨h.f.imp id fun h=>h.sets hb vs,h.st.imp id fun h=>h.sets hb vs 0,h.ou.imp id fun h=>h.sets hb vs 0,h.k.imp id fun h=>h.sets hb vs 0⟩
theorem StN.lies {w0:World} (h:StN w B p pv l sv m ov k kv U fv' sv' ov' kv') (hp:LP w0 p pv) (hl:Row 8 ic w0 l sv) (hm:Row 8 ic w0 m ov) (hk:FrW w0 k kv) (hb:Below w0.heap.size w0 w):StW w U fv' sv' ov' kv':=by
 obtain ⟨h1,h2,h3,h4⟩:=h
 refine ⟨?_,?_,?_,?_⟩
 · rcases h1 with ⟨e,rfl⟩ | h1
   · rw [e];exact hp.later hb (Nat.le_refl _)
   · exact h1.lp
 · rcases h2 with ⟨e,rfl⟩ | h2
   · rw [e];exact hl.later hb
   · exact h2.row
 · rcases h3 with ⟨e,rfl⟩ | h3
   · rw [e];exact hm.later hb
   · exact h3.row
 · rcases h4 with ⟨e,rfl⟩ | h4
   · rw [e];exact hk.later hb (Nat.le_refl _)
   · exact h4.fr
theorem StX.n {s:St} {fv:Value} (h:StX w B s U sv ov kv sv' ov' kv'):StN w B s.f fv s.store sv s.out ov s.k.l kv U fv sv' ov' kv':=by
 rcases h with ⟨rfl,rfl,rfl,rfl⟩ | ⟨e,h1,h2,h3⟩
 · exact ⟨.inl ⟨rfl,rfl⟩,.inl ⟨rfl,rfl⟩,.inl ⟨rfl,rfl⟩,.inl ⟨rfl,rfl⟩⟩
 · exact ⟨.inl ⟨e,rfl⟩,.inr h1,.inr h2,.inr h3⟩
end
def Told (c:Int → Value) (p:Pr) (pv:Value) (s:St) (sv ov kv:Value) (U:St) (E:Int) (w:World) (e:Ending) (w':World):Prop :=
 ∃ fv' sv' ov' kv',e = .returned (.tuple #[stV U fv' sv' ov' kv',c E]) ∧ StN w' w.heap.size p pv s.store sv s.out ov s.k.l kv U fv' sv' ov' kv' ∧ Below w.heap.size w w'
def zyb (c:Int → Value) (p:Pr) (pv:Value) (q:Pr) (qv:Value) (s:St) (sv ov kv:Value) (U:St) (E:Int) (w:World) (e:Ending) (w':World):Prop :=
 Told c p pv s sv ov kv U E w e w' ∨ Told c q qv s sv ov kv U E w e w'
def numI (n:Int):Value:=.int .i64 n
end Go.Proofs.YthnllikalobmeaaGreat
namespace Go.Proofs.YthnllikalobmeaaGreat
set_option linter.unusedVariables false
set_option linter.unusedSimpArgs false
set_option maxRecDepth 100000
set_option maxHeartbeats 8000000
open Go.RowKit
abbrev itS (id kd:ByteArray) (num:Int) (px py:Nat):Itm:=⟨id,1,1,1,kd,num,px,py,false⟩
theorem far8 {X:World} {b' b:Nat} {c:Array Value} {T:TypeId} (h:Own X b' c T) (hne:b' ≠ b) (c0 c1 c2 c3 c4 c5 c6 c7:Value) :
   Own (((((((((X.setCell ⟨b,0,none⟩ c0).setCell ⟨b,1,none⟩ c1).setCell ⟨b,2,none⟩ c2).setCell ⟨b,3,none⟩ c3).setCell ⟨b,4,none⟩ c4).setCell ⟨b,5,none⟩ c5).setCell ⟨b,6,none⟩ c6).setCell ⟨b,7,none⟩ c7)) b' c T :=
 (((((((h.setFar _ _ hne).setFar _ _ hne).setFar _ _ hne).setFar _ _ hne).setFar _ _ hne).setFar _ _ hne).setFar _ _ hne).setFar _ _ hne
theorem zgm (id kd:ByteArray) (num:Int) (px py:Nat) (w:World) (hid:id.size ≤ maxLen) (hkd:kd.size ≤ maxLen) :
   Calls Tryz.prog 100 #[.string id,.string kd,.int .i64 num,.complex .f64 px py] w fun e w'=>e = .returned (.tuple #[iV (itS id kd num px py),.bool (mayT (itS id kd num px py))]) ∧ Below w.heap.size w w':=by
 have OT:=y24h ((Own.new w #[.string ⟨#[]⟩,.int .i64 0,.int .i64 0,.int .i64 0,.string ⟨#[]⟩,.int .i64 0,.complex .f64 0 0,.bool false] 69).alloc (.cells (iA (itS id kd num px py)) 69))
 have OX:=y24h (Own.newAt (w.alloc (.cells #[.string ⟨#[]⟩,.int .i64 0,.int .i64 0,.int .i64 0,.string ⟨#[]⟩,.int .i64 0,.complex .f64 0 0,.bool false] 69)) (iA (itS id kd num px py)) 69 (b:=w.heap.size + 1) (by simp))
 have BEL:=y24h (((Below.refl w.heap.size w).alloc (Nat.le_refl _) (.cells #[.string ⟨#[]⟩,.int .i64 0,.int .i64 0,.int .i64 0,.string ⟨#[]⟩,.int .i64 0,.complex .f64 0 0,.bool false] 69)).alloc (by simp) (.cells (iA (itS id kd num px py)) 69))
 have C:=fun w'=>y24h (zer (itS id kd num px py) w' hid hkd)
 have hne:=y24h (show w.heap.size + 1 ≠ w.heap.size by omega)
 generalize mayT (itS id kd num px py) = m at *
 go_enter Tryz.func100,Tryz.ntmps100
 go_wp2_with fail
 replace OT:=y24h OT.out.drew
 replace OX:=y24h OX.out.drew
 replace BEL:=y24h BEL.out.drew
 go_region_held3 (fun w'=>∀ o,w'.cell? ⟨w.heap.size + 1,o,none⟩ = (iA (itS id kd num px py))[o]?) (first | with_reducible exact OX.out.cell | with_reducible exact (far8 OX.out hne.out _ _ _ _ _ _ _ _).cell | fail) (first
     | (go_simp;go_at_call 87;refine (C _).out.mono ?_;rintro e w3 ⟨rfl,hb⟩;replace OT:=y24h (OT.out.later hb);replace OX:=y24h (OX.out.later hb);replace BEL:=y24h (BEL.out.trans (hb.mono BEL.out.size));clear hb;have l1:=OT.out.cell;have f1:=OT.out.free;have z1:=OT.out.lt)
     | fail)
 have key:=And.intro (zbl OT.out (.string id) (.int .i64 1) (.int .i64 1) (.int .i64 1) (.string kd) (.int .i64 num) (.complex .f64 px py) (.bool false)) (za3 (b:=w.heap.size) BEL.out (Nat.le_refl _) (.string id) (.int .i64 1) (.int .i64 1) (.int .i64 1) (.string kd) (.int .i64 num) (.complex .f64 px py) (.bool false))
 clear OT OX BEL l1 f1 z1
 go_wp2_with fail
 unfold st8 at key
 revert key
 generalize World.setCell (World.setCell (World.setCell (World.setCell (World.setCell (World.setCell (World.setCell (World.setCell _ _ _) _ _) _ _) _ _) _ _) _ _) _ _) _ _ = WW
 rintro ⟨of,bf⟩
 exact zae (by rfl) (by rfl) (by rfl) (l:=ic (itS id kd num px py)) of.range Tryz.underlying69 (by rfl) (by kernel_rfl) rfl ⟨rfl,bf⟩
def updE (s:St) (x:Itm):Int:=if mayT x = true then (if (zaf s x.id).2 = true ∧ (zaf s x.id).1.d = false then (if zbe s = true then 5 else 0) else 2) else 1
def updS (s:St) (x:Itm):St:=if updE s x = 0 then za0 s x else s
theorem z1c {s:St} {x:Itm} (h:mayT x = false):updE s x = 1 ∧ updS s x = s:=by
 have e:updE s x = 1:=by unfold updE;rw [if_neg (by simp [h])]
 exact ⟨e,by unfold updS;rw [e,if_neg (by decide)]⟩
theorem z1d {s:St} {x:Itm} (h:mayT x = true) (h2:¬((zaf s x.id).2 = true ∧ (zaf s x.id).1.d = false)):updE s x = 2 ∧ updS s x = s:=by
 have e:updE s x = 2:=by unfold updE;rw [if_pos h,if_neg h2]
 exact ⟨e,by unfold updS;rw [e,if_neg (by decide)]⟩
theorem z1e {s:St} {x:Itm} (h:mayT x = true) (h2:(zaf s x.id).2 = true ∧ (zaf s x.id).1.d = false) (h3:zbe s = true):updE s x = 5 ∧ updS s x = s:=by
 have e:updE s x = 5:=by unfold updE;rw [if_pos h,if_pos h2,if_pos h3]
 exact ⟨e,by unfold updS;rw [e,if_neg (by decide)]⟩
theorem z1f {s:St} {x:Itm} (h:mayT x = true) (h2:(zaf s x.id).2 = true ∧ (zaf s x.id).1.d = false) (h3:zbe s = false):updE s x = 0 ∧ updS s x = za0 s x:=by
 have e:updE s x = 0:=by unfold updE;rw [if_pos h,if_pos h2,if_neg (by simp [h3])]
 exact ⟨e,by unfold updS;rw [e,if_pos rfl]⟩
theorem zk8 (s:St) (fv sv ov kv:Value) (id kd:ByteArray) (num:Int) (px py:Nat) (w:World) (hS:StW w s fv sv ov kv) (hid:id.size ≤ maxLen) (hkd:kd.size ≤ maxLen) (hf:s.f.size ≤ 1000) (h1:s.store.length ≤ 1000) (h2:s.out.length ≤ 1000)
   (hk1:(zag (zap s.k id s.r (s.count + 1)).l).length ≤ 10000) (hk2:s.k.l.length ≤ 10000) (hk3:(zag s.k.l).length ≤ 10000) (hc:0 ≤ s.count ∧ s.count ≤ 1000) (ht:0 ≤ s.clock ∧ s.clock ≤ 1000000) :
   Calls Tryz.prog 52 #[stV s fv sv ov kv,.string id,.string kd,.int .i64 num,.complex .f64 px py] w fun e w' =>
     ∃ sv' ov' kv',e = .returned (.tuple #[stV (updS s (itS id kd num px py)) fv sv' ov' kv',.int .i64 (updE s (itS id kd num px py))]) ∧ StW w' (updS s (itS id kd num px py)) fv sv' ov' kv' ∧ StX w' w.heap.size s (updS s (itS id kd num px py)) sv ov kv sv' ov' kv' ∧ Below w.heap.size w w':=by
 have OA:=y24h ((Own.new w (stA s fv sv ov kv) 43).alloc (.cells stZ.toArray 43))
 have OT:=y24h (Own.newAt (w.alloc (.cells (stA s fv sv ov kv) 43)) stZ.toArray 43 (b:=w.heap.size + 1) (by simp))
 have BEL:=y24h (((Below.refl w.heap.size w).alloc (Nat.le_refl _) (.cells (stA s fv sv ov kv) 43)).alloc (by simp) (.cells stZ.toArray 43))
 have HW:=y24h hS
 have hfv:fv.oneCell' = true:=zar hS.lf
 have hsv:sv.oneCell' = true:=by obtain ⟨_,_,_,_,e,_⟩:=hS.ls;rw [e];rfl
 have hov:ov.oneCell' = true:=by obtain ⟨_,_,_,_,e,_⟩:=hS.lo;rw [e];rfl
 have hkv:kv.oneCell' = true:=by obtain ⟨_,_,e⟩:=hS.lk.val;rw [e];rfl
 unfold Value.oneCell' at hfv hsv hov hkv
 clear hS
 have CS:=fun w'=>y24h (zgm id kd num px py w' hid hkd)
 have CD:=fun w' (hb:Below w.heap.size w w')=>y24h (zd0 s fv sv ov kv id w' (HW.out.later hb) h1 h2)
 have CM:=fun w' (hb:Below w.heap.size w w')=>y24h (zeo s fv sv ov kv (itS id kd num px py) w' (HW.out.later hb) ⟨hid,hkd⟩ hf h1 h2 hk1 hk2 hk3 hc ht)
 have EA:=y24h (z1c (s:=s) (x:=(itS id kd num px py)))
 have EB:=y24h (z1d (s:=s) (x:=(itS id kd num px py)))
 have EC:=y24h (z1e (s:=s) (x:=(itS id kd num px py)))
 have ED:=y24h (z1f (s:=s) (x:=(itS id kd num px py)))
 clear hf h1 h2 hk1 hk2 hk3 hc ht
 have hXid:((itS id kd num px py)).id = id:=rfl
 rw [hXid] at EB EC ED
 generalize mayT (itS id kd num px py) = m at EA EB EC ED CS
 generalize hhd:(zaf s id).1 = hd at EB EC ED CD
 generalize hok:(zaf s id).2 = ok at EB EC ED CD
 clear hhd hok hXid
 generalize updE s (itS id kd num px py) = ue at *
 generalize updS s (itS id kd num px py) = us at *
 cases m with
 | false =>
   have E:=y24h (EA.out rfl)
   clear EA EB EC ED
   rw [E.out.1,E.out.2]
   clear E
   all_goals
     go_enter Tryz.func52,Tryz.ntmps52
     go_wp2_with (first | (go_at_call 100;go_loud (refine (CS _).out.mono ?_;rintro e w1 ⟨rfl,hb⟩;have OX:=y24h (Own.new w1 (iA (itS id kd num px py)) 69);replace OA:=y24h ((OA.out.later hb).alloc (.cells (iA (itS id kd num px py)) 69));replace OT:=y24h ((OT.out.later hb).alloc (.cells (iA (itS id kd num px py)) 69));replace BEL:=y24h ((BEL.out.trans (hb.mono BEL.out.size)).alloc ((BEL.out.trans (hb.mono BEL.out.size)).size) (.cells (iA (itS id kd num px py)) 69));clear hb)) | (refine wpList_load_mid (by rfl) 43 _ (by rfl) w.heap.size 0 (by rfl) (stA s fv sv ov kv).toList _ OA.out.range Tryz.underlying43 (by rfl) (by kernel_rfl) ?_) | (refine wpList_store_mid (by rfl) 43 _ _ (by rfl) (w.heap.size + 1) 0 (stA s fv sv ov kv) (by rfl) (by rfl) (OT.out.there (by rfl)) (by kernel_rfl) (by simp [Value.oneCell',hfv,hsv,hov,hkv]) ?_) | fail)
     have HK:=y24h (And.intro (OT.out.sets (stA s fv sv ov kv).toList (by rfl)) (zab (b:=w.heap.size + 1) (by omega) (stA s fv sv ov kv).toList 0 BEL.out))
     clear OX OA OT BEL
     revert HK
     generalize World.setCells _ _ _ _ = WW
     intro HK
     exact zae (by rfl) (by rfl) (by rfl) HK.out.1.range Tryz.underlying43 (by rfl) (by kernel_rfl) rfl ⟨sv,ov,kv,rfl,HW.out.later HK.out.2,.refl _ _ _ _ _ _,HK.out.2⟩
 | true =>
   clear EA
   have E:=y24h (EB.out rfl)
   clear EB
   by_cases hw:ok = true ∧ hd.d = false
   · replace EC:=y24h (EC.out rfl hw)
     replace ED:=y24h (ED.out rfl hw)
     clear E
     obtain ⟨rfl,hd0⟩:=hw
     have CM2:=fun w' (hb:Below w.heap.size w w')=>y24h (show Calls Tryz.prog 101 #[stV s fv sv ov kv,iV (itS id kd num px py)] w' (fun e w''=>∃ sv' ov' kv',e = .returned (.tuple #[stV us fv sv' ov' kv',.int .i64 ue]) ∧ StX w'' w'.heap.size s us sv ov kv sv' ov' kv' ∧ Below w'.heap.size w' w'') from (CM w' hb).out.mono fun e w'' h=>by
       rcases h with ⟨hf,he,hb2⟩ | ⟨hf,sv',ov',kv',he,hst,hr,hb2⟩
       · rw [(EC.out hf).1,(EC.out hf).2]
         exact ⟨sv,ov,kv,he,.refl _ _ _ _ _ _,hb2⟩
       · rw [(ED.out hf).1,(ED.out hf).2]
         exact ⟨sv',ov',kv',he,.inr ⟨rfl,hr⟩,hb2⟩)
     clear CM EC ED
     obtain ⟨x1,x2,x3,x4,x5,x6,x7,x8,xd⟩:=hd
     change xd = false at hd0
     subst hd0
     go_enter Tryz.func52,Tryz.ntmps52
     go_wp2_with (first | (go_at_call 100;go_loud (refine (CS _).out.mono ?_;rintro e w1 ⟨rfl,hb⟩;have OX:=y24h (Own.new w1 (iA (itS id kd num px py)) 69);replace OA:=y24h ((OA.out.later hb).alloc (.cells (iA (itS id kd num px py)) 69));replace OT:=y24h ((OT.out.later hb).alloc (.cells (iA (itS id kd num px py)) 69));replace BEL:=y24h ((BEL.out.trans (hb.mono BEL.out.size)).alloc ((BEL.out.trans (hb.mono BEL.out.size)).size) (.cells (iA (itS id kd num px py)) 69));clear hb)) | (go_at_call 25;refine (CD _ BEL.out).out.mono ?_;rintro e w2 ⟨rfl,hb⟩;replace OX:=y24h ((OX.out.later hb).alloc (.cells (iA (⟨x1,x2,x3,x4,x5,x6,x7,x8,false⟩:Itm)) 69));replace OA:=y24h ((OA.out.later hb).alloc (.cells (iA (⟨x1,x2,x3,x4,x5,x6,x7,x8,false⟩:Itm)) 69));replace OT:=y24h ((OT.out.later hb).alloc (.cells (iA (⟨x1,x2,x3,x4,x5,x6,x7,x8,false⟩:Itm)) 69));replace BEL:=y24h ((BEL.out.trans (hb.mono BEL.out.size)).alloc ((BEL.out.trans (hb.mono BEL.out.size)).size) (.cells (iA (⟨x1,x2,x3,x4,x5,x6,x7,x8,false⟩:Itm)) 69));clear hb;have lOX:=OX.out.cell;have zOX:=OX.out.lt) | (go_at_call 101;go_loud (refine (CM2 _ BEL.out).out.mono ?_;rintro e w3 ⟨sv',ov',kv',rfl,hx,hb⟩;have hst:=hx.lies HW.out (BEL.out.trans (hb.mono BEL.out.size));have hBs:=OT.out.lt;have hfv3:fv.oneCell' = true:=zar hst.lf;have hsv3:sv'.oneCell' = true:=(by obtain ⟨_,_,_,_,e,_⟩:=hst.ls;rw [e];rfl);have hov3:ov'.oneCell' = true:=(by obtain ⟨_,_,_,_,e,_⟩:=hst.lo;rw [e];rfl);have hkv3:kv'.oneCell' = true:=(by obtain ⟨_,_,e⟩:=hst.lk.val;rw [e];rfl);unfold Value.oneCell' at hfv3 hsv3 hov3 hkv3;have HST:=y24h hx;have HBS:=y24h hBs;have BE2:=y24h (BEL.out.trans (hb.mono BEL.out.size));have OT2:=y24h (OT.out.later hb);clear hst hx hb hBs lOX zOX)) | (refine wpList_load_mid (by rfl) 43 _ (by rfl) w.heap.size 0 (by rfl) (stA s fv sv ov kv).toList _ OA.out.range Tryz.underlying43 (by rfl) (by kernel_rfl) ?_) | (refine wpList_store_mid (by rfl) 43 _ _ (by rfl) (w.heap.size + 1) 0 (stA us fv sv' ov' kv') (by rfl) (by rfl) (OT2.out.there (by rfl)) (by kernel_rfl) (by simp [Value.oneCell',hfv3,hsv3,hov3,hkv3]) ?_) | fail)
     have HK:=y24h (And.intro (OT2.out.sets (stA us fv sv' ov' kv').toList (by rfl)) (And.intro (zab (b:=w.heap.size + 1) (by omega) (stA us fv sv' ov' kv').toList 0 BE2.out) (HST.out.sets HBS.out (stA us fv sv' ov' kv').toList)))
     have hle:=BEL.out.size
     clear OX OA OT BEL OT2 BE2 HST
     revert HK
     generalize World.setCells _ _ _ _ = WW
     intro HK
     exact zae (by rfl) (by rfl) (by rfl) HK.out.1.range Tryz.underlying43 (by rfl) (by kernel_rfl) rfl ⟨sv',ov',kv',rfl,HK.out.2.2.lies HW.out HK.out.2.1,HK.out.2.2.mono hle,HK.out.2.1⟩
   · rw [(E.out hw).1,(E.out hw).2]
     clear E EC ED
     have hways:ok = false ∨ (ok = true ∧ hd.d = true):=by
       cases ok with
       | false=>exact .inl rfl
       | true =>
         refine .inr ⟨rfl,?_⟩
         cases hq:hd.d with
         | false=>exact absurd ⟨rfl,hq⟩ hw
         | true=>rfl
     clear hw
     obtain ⟨x1,x2,x3,x4,x5,x6,x7,x8,xd⟩:=hd
     change ok = false ∨ (ok = true ∧ xd = true) at hways
     rcases hways with rfl | ⟨rfl,rfl⟩
     · go_enter Tryz.func52,Tryz.ntmps52
       go_wp2_with (first | (go_at_call 100;go_loud (refine (CS _).out.mono ?_;rintro e w1 ⟨rfl,hb⟩;have OX:=y24h (Own.new w1 (iA (itS id kd num px py)) 69);replace OA:=y24h ((OA.out.later hb).alloc (.cells (iA (itS id kd num px py)) 69));replace OT:=y24h ((OT.out.later hb).alloc (.cells (iA (itS id kd num px py)) 69));replace BEL:=y24h ((BEL.out.trans (hb.mono BEL.out.size)).alloc ((BEL.out.trans (hb.mono BEL.out.size)).size) (.cells (iA (itS id kd num px py)) 69));clear hb)) | (go_at_call 25;refine (CD _ BEL.out).out.mono ?_;rintro e w2 ⟨rfl,hb⟩;replace OX:=y24h ((OX.out.later hb).alloc (.cells (iA (⟨x1,x2,x3,x4,x5,x6,x7,x8,xd⟩:Itm)) 69));replace OA:=y24h ((OA.out.later hb).alloc (.cells (iA (⟨x1,x2,x3,x4,x5,x6,x7,x8,xd⟩:Itm)) 69));replace OT:=y24h ((OT.out.later hb).alloc (.cells (iA (⟨x1,x2,x3,x4,x5,x6,x7,x8,xd⟩:Itm)) 69));replace BEL:=y24h ((BEL.out.trans (hb.mono BEL.out.size)).alloc ((BEL.out.trans (hb.mono BEL.out.size)).size) (.cells (iA (⟨x1,x2,x3,x4,x5,x6,x7,x8,xd⟩:Itm)) 69));clear hb;have lOX:=OX.out.cell;have zOX:=OX.out.lt) | (refine wpList_load_mid (by rfl) 43 _ (by rfl) w.heap.size 0 (by rfl) (stA s fv sv ov kv).toList _ OA.out.range Tryz.underlying43 (by rfl) (by kernel_rfl) ?_) | (refine wpList_store_mid (by rfl) 43 _ _ (by rfl) (w.heap.size + 1) 0 (stA s fv sv ov kv) (by rfl) (by rfl) (OT.out.there (by rfl)) (by kernel_rfl) (by simp [Value.oneCell',hfv,hsv,hov,hkv]) ?_) | fail)
       have HK:=y24h (And.intro (OT.out.sets (stA s fv sv ov kv).toList (by rfl)) (zab (b:=w.heap.size + 1) (by omega) (stA s fv sv ov kv).toList 0 BEL.out))
       clear OX OA OT BEL
       revert HK
       generalize World.setCells _ _ _ _ = WW
       intro HK
       exact zae (by rfl) (by rfl) (by rfl) HK.out.1.range Tryz.underlying43 (by rfl) (by kernel_rfl) rfl ⟨sv,ov,kv,rfl,HW.out.later HK.out.2,.refl _ _ _ _ _ _,HK.out.2⟩
     · go_enter Tryz.func52,Tryz.ntmps52
       go_wp2_with (first | (go_at_call 100;go_loud (refine (CS _).out.mono ?_;rintro e w1 ⟨rfl,hb⟩;have OX:=y24h (Own.new w1 (iA (itS id kd num px py)) 69);replace OA:=y24h ((OA.out.later hb).alloc (.cells (iA (itS id kd num px py)) 69));replace OT:=y24h ((OT.out.later hb).alloc (.cells (iA (itS id kd num px py)) 69));replace BEL:=y24h ((BEL.out.trans (hb.mono BEL.out.size)).alloc ((BEL.out.trans (hb.mono BEL.out.size)).size) (.cells (iA (itS id kd num px py)) 69));clear hb)) | (go_at_call 25;refine (CD _ BEL.out).out.mono ?_;rintro e w2 ⟨rfl,hb⟩;replace OX:=y24h ((OX.out.later hb).alloc (.cells (iA (⟨x1,x2,x3,x4,x5,x6,x7,x8,true⟩:Itm)) 69));replace OA:=y24h ((OA.out.later hb).alloc (.cells (iA (⟨x1,x2,x3,x4,x5,x6,x7,x8,true⟩:Itm)) 69));replace OT:=y24h ((OT.out.later hb).alloc (.cells (iA (⟨x1,x2,x3,x4,x5,x6,x7,x8,true⟩:Itm)) 69));replace BEL:=y24h ((BEL.out.trans (hb.mono BEL.out.size)).alloc ((BEL.out.trans (hb.mono BEL.out.size)).size) (.cells (iA (⟨x1,x2,x3,x4,x5,x6,x7,x8,true⟩:Itm)) 69));clear hb;have lOX:=OX.out.cell;have zOX:=OX.out.lt) | (refine wpList_load_mid (by rfl) 43 _ (by rfl) w.heap.size 0 (by rfl) (stA s fv sv ov kv).toList _ OA.out.range Tryz.underlying43 (by rfl) (by kernel_rfl) ?_) | (refine wpList_store_mid (by rfl) 43 _ _ (by rfl) (w.heap.size + 1) 0 (stA s fv sv ov kv) (by rfl) (by rfl) (OT.out.there (by rfl)) (by kernel_rfl) (by simp [Value.oneCell',hfv,hsv,hov,hkv]) ?_) | fail)
       have HK:=y24h (And.intro (OT.out.sets (stA s fv sv ov kv).toList (by rfl)) (zab (b:=w.heap.size + 1) (by omega) (stA s fv sv ov kv).toList 0 BEL.out))
       clear OX OA OT BEL
       revert HK
       generalize World.setCells _ _ _ _ = WW
       intro HK
       exact zae (by rfl) (by rfl) (by rfl) HK.out.1.range Tryz.underlying43 (by rfl) (by kernel_rfl) rfl ⟨sv,ov,kv,rfl,HW.out.later HK.out.2,.refl _ _ _ _ _ _,HK.out.2⟩
end Go.Proofs.YthnllikalobmeaaGreat
