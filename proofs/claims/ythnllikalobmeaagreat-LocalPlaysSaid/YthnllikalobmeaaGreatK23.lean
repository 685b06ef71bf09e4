/- Joined: LBoth, RefMayK, StM, RefSt2. -/
import Derived.Test.YthnllikalobmeaaGreatK22
import Derived.Laws.MakeOwn
import Derived.Test.YthnllikalobmeaaGreatK13
import Derived.Test.YthnllikalobmeaaGreatK11
import Derived.Deep.RegionHeld3
import Derived.Test.YthnllikalobmeaaGreatK12
import Derived.Test.YthnllikalobmeaaGreatK14
import Derived.Test.YthnllikalobmeaaGreatK15
import Derived.Deep.CutBlock
import Derived.Deep.DeepCutAuto
namespace Go.Proofs.YthnllikalobmeaaGreat
set_option linter.unusedVariables false
set_option linter.unusedSimpArgs false
set_option maxRecDepth 100000
set_option maxHeartbeats 8000000
open Go.RowKit
theorem y23h {p:Prop} (h:p):Hid p:=Lib.hid h
def lenV:Value → Nat
 | .slice _ n _=>n
 | _=>0
theorem zrg (st r c st' r' c':Int):cmpV st r c st' r' c' = -1 ∨ cmpV st r c st' r' c' = 0 ∨ cmpV st r c st' r' c' = 1:=by
 unfold cmpV orI cmpI
 repeat' split
 all_goals simp
theorem zqc (a b:Itm):decide (0 < cmpT a b) = behT a b:=by
 unfold behT cmpT
 rcases zrg a.st a.r a.c b.st b.r b.c with h | h | h <;> rw [h] <;> decide
theorem zrf (a b:Itm) (w:World) :
   Calls Tryz.prog 144 #[iV a,iV b] w fun e w'=>e = .returned (.int .i64 (cmpT a b)) ∧ Below w.heap.size w w' :=
 zmg a.id a.r a.c a.st a.kd a.num a.x a.y a.d b.id b.r b.c b.st b.kd b.num b.x b.y b.d w
abbrev At8 (w:World) (b o:Nat) (i:Itm):Prop :=
 w.cell? ⟨b,o,none⟩ = some (.string i.id) ∧ w.cell? ⟨b,o + 1,none⟩ = some (.int .i64 i.r) ∧ w.cell? ⟨b,o + 2,none⟩ = some (.int .i64 i.c) ∧ w.cell? ⟨b,o + 3,none⟩ = some (.int .i64 i.st) ∧ w.cell? ⟨b,o + 4,none⟩ = some (.string i.kd) ∧ w.cell? ⟨b,o + 5,none⟩ = some (.int .i64 i.num) ∧ w.cell? ⟨b,o + 6,none⟩ = some (.complex .f64 i.x i.y) ∧ w.cell? ⟨b,o + 7,none⟩ = some (.bool i.d)
theorem At8.later {w w':World} {b o:Nat} {i:Itm} (h:At8 w b o i) (hlt:b < w.heap.size) (hb:Below w.heap.size w w'):At8 w' b o i:=by
 obtain ⟨h0,h1,h2,h3,h4,h5,h6,h7⟩:=h
 have e:∀ j,w'.cell? ⟨b,j,none⟩ = w.cell? ⟨b,j,none⟩:=fun j=>hb.cell (p:=⟨b,j,none⟩) hlt
 exact ⟨(e _).trans h0,(e _).trans h1,(e _).trans h2,(e _).trans h3,(e _).trans h4,(e _).trans h5,(e _).trans h6,(e _).trans h7⟩
theorem zo2 {w:World} {i:Itm} {l:List Itm} {v:Value} (h:Row 8 ic w (i :: l) v):∃ b o cap,v = .slice (some ⟨b,o,none⟩) (l.length + 1) cap ∧ l.length + 1 ≤ cap ∧ cap ≤ maxLen ∧ b < w.heap.size ∧ At8 w b o i ∧ Row 8 ic w (i :: l) (.slice (some ⟨b,o,none⟩) (l.length + 1) cap):=by
 have h':=h
 obtain ⟨oa,cap,b,o,rfl,h⟩:=h
 obtain ⟨rfl,hb⟩:=h.at0 (by simp)
 refine ⟨b,o,cap,rfl,h.len,h.max,hb,?_,h'⟩
 have:=za0 (w:=w) (fun j u hu=>h.cell 0 i rfl j u hu)
 simpa using this
theorem zw8 {w:World} {i:Itm} {l:List Itm} {b o n cap:Nat} (h:Row 8 ic w (i :: l) (.slice (some ⟨b,o,none⟩) n cap)) (hn:n = l.length + 1):Row 8 ic w l (.slice (some ⟨b,o + 8,none⟩) l.length (cap - 1)):=by
 have:=h.slice 1 (by simp)
 subst hn
 simpa [zez] using this
theorem zw6 {w:World} {i:Itm} {l:List Itm} {b o n cap:Nat} (h:Row 8 ic w (i :: l) (.slice (some ⟨b,o,none⟩) n cap)) (hn:n = l.length + 1) (hc:cap = 1):Row 8 ic w l (.slice (some ⟨b,o,none⟩) l.length 0):=by
 subst hn hc
 have e:=h.none
 have:l.length = 0:=by
   obtain ⟨_,_,_,_,e2,h2⟩:=h
   cases e2
   have:=h2.len;simp at this;rw [this];rfl
 rw [this]
 simpa using e
structure BothI (f:Itm → Itm → Bool) (w:World) (R la lb D:List Itm) (wr:World) (v:Value):Prop where
 own:OwnI wr w.heap.size D v
 eq:D ++ mrgI f la lb = R
 len:la.length + lb.length + D.length ≤ 2000
 bel:Below w.heap.size w wr
def zze (f:Itm → Itm → Bool) (w:World) (R:List Itm) (a b v:Value) (wr:World):Prop :=
 ∃ la lb D:List Itm,Row 8 ic w la a ∧ Row 8 ic w lb b ∧ Hid (BothI f w R la lb D wr v)
theorem zd1 {w:World} {i:Itm} {l:List Itm} {b o n cap:Nat} (h:Row 8 ic w (i :: l) (.slice (some ⟨b,o,none⟩) n cap)) (hn:n = l.length + 1):Row 8 ic w l (.slice (if cap = 1 then some ⟨b,o,none⟩ else some ⟨b,o + 8,none⟩) l.length (cap - 1)):=by
 split
 · rename_i hc
   have:=zw6 h hn hc
   rw [show cap - 1 = 0 by omega]
   exact this
 · exact zw8 h hn
theorem zej {f:Itm → Itm → Bool} {w w1 w2:World} {R la lb la0 lb0 D:List Itm} {v v1:Value} {Z:Itm} (hI:BothI f w R la0 lb0 D w1 v) (ho:OwnI w2 w.heap.size (D ++ [Z]) v1) (hb:Below w.heap.size w w2) (he:mrgI f la0 lb0 = Z :: mrgI f la lb) (hl:la.length + lb.length + 1 ≤ la0.length + lb0.length):BothI f w R la lb (D ++ [Z]) w2 v1 :=
 ⟨ho,by rw [List.append_assoc,← hI.eq,he];rfl,by have:=hI.len;rw [List.length_append];simp only [List.length_cons,List.length_nil];omega,hb⟩
theorem zk2 (l m:List Itm) (v v':Value) (w:World) (hR:Row 8 ic w l v) (hM:Row 8 ic w m v') (hr:zao l) (hm:zao m) (h1:l.length ≤ 1000) (h2:m.length ≤ 1000) :
   Calls Tryz.prog 98 #[v,v'] w fun e w'=>∃ v2,e = .returned v2 ∧ Row 8 ic w' (zas behT l m) v2 ∧ Below w.heap.size w w':=by
 obtain ⟨i0,hi,hz0,hz1,hz2⟩:=info_parts zce
 have CS:=fun a b w=>y23h (zjq a b w)
 have CT:=fun a b w=>y23h (zrf a b w)
 have HA:=y23h hR
 have HB:=y23h hM
 have HO:=y23h (show ∀ i ∈ mrgI behT l m,i.id.size ≤ maxLen ∧ i.kd.size ≤ maxLen from fun i hi=>by
   rcases zie (Nat.le_refl _) hi with h | h
   · exact hR.oks i h
   · exact hM.oks i h)
 rw [← zwe hr hm]
 obtain ⟨oa,cap,rfl⟩:=hR.val
 obtain ⟨oa',cap',rfl⟩:=hM.val
 obtain ⟨w',hrun,hown,hgr⟩:=run_makeSlice_owned (P:=Tryz.prog) w w.heap.size 41 69 i0 _ 8 Tryz.underlying41 hi hz0 hz1 .i64 .i64 (l.length + m.length) (by omega) (by rw [hz2];omega) (by unfold maxLen;omega) (Nat.le_refl _)
 rw [Int.natCast_add] at hrun
 have HI:=y23h (show BothI behT w (mrgI behT l m) l m [] w' _ from ⟨hown,rfl,by simp;omega,(Below.refl _ _).grown hgr (Nat.le_refl _) (fun k hk=>by cases hk)⟩)
 clear hown hgr hR hM hr hm
 generalize mrgI behT l m = R at *
 go_enter Tryz.func98,Tryz.ntmps98
 go_wp2_with fail
 go_loopw [0,1,5] (fun a b v wr=>zze behT w R a b v wr) (fun a b _ _=>lenV a + lenV b)
 case atStart=>exact ⟨l,m,[],HA.out,HB.out,HI.out⟩
 case round =>
   clear HI HA HB hrun
   obtain ⟨la,lb,D,ha,hb,HI⟩:=hrel
   obtain ⟨ov,cv,e⟩:=HI.out.own.len
   subst e
   by_cases hex:la = [] ∨ lb = []
   · have E:=y23h (show (D ++ la) ++ lb = R by
       have:=HI.out.eq
       rcases hex with h | h
       · subst h;rw [zc3] at this;simpa using this
       · subst h;rw [zfm] at this;simpa using this)
     obtain ⟨oA,cA,rfl⟩:=ha.val
     obtain ⟨oB,cB,rfl⟩:=hb.val
     have HL:=y23h HI.out.len
     have RA:=y23h ha
     have RB:=y23h hb
     obtain ⟨DE,hDE⟩:∃ DE,DE = D ++ la:=⟨_,rfl⟩
     have HDL:=y23h (show DE.length + lb.length ≤ 2000 by rw [hDE,List.length_append];have:=HL.out;omega)
     have HAP:=y23h (fun ty=>zbg ty HI.out.own (RA.out.later HI.out.bel) (by have:=HL.out;omega) HI.out.bel.size)
     rw [← hDE] at HAP E
     clear hDE HL
     have hlen:la.length = 0 ∨ lb.length = 0:=by
       rcases hex with h | h
       · subst h;exact .inl rfl
       · subst h;exact .inr rfl
     clear hex ha hb
     generalize hna:la.length = na at *
     generalize hnb:lb.length = nb at *
     have HNB:=y23h hnb
     clear hna hnb
     by_cases hz:na = 0
     · subst hz
       clear hlen
       go_wp2_with (first
         | (at_builtin;obtain ⟨v1,w1,hrun,hown,hgr⟩:=HAP.out _;refine Lib.wpList_append_run _ rfl _ _ _ _ rfl _ _ rfl rfl _ _ hrun ?_;have B1:=y23h (zba HI.out.own HI.out.bel (Nat.le_refl _) hgr HI.out.bel.size);have HBP:=y23h (fun ty=>zbg ty hown (RB.out.later B1.out) (by have:=HDL.out;have:=HNB.out;omega) B1.out.size);have HW:=y23h hown;obtain ⟨o1,c1,rfl⟩:=hown.len;clear HAP hgr hown)
         | (at_builtin;obtain ⟨v2,w2,hrun2,hown2,hgr2⟩:=HBP.out _;refine Lib.wpList_append_run _ rfl _ _ _ _ rfl _ _ rfl rfl _ _ hrun2 ?_))
       go_ret
       exact ⟨_,rfl,by rw [E.out] at hown2;exact hown2.row HO.out,zba HW.out B1.out (Nat.le_refl _) hgr2 B1.out.size⟩
     · have hz2:nb = 0:=by omega
       subst hz2
       have g1:(0:Int) < (na:Int):=by omega
       clear hlen
       go_wp2_with (first
         | (at_builtin;obtain ⟨v1,w1,hrun,hown,hgr⟩:=HAP.out _;refine Lib.wpList_append_run _ rfl _ _ _ _ rfl _ _ rfl rfl _ _ hrun ?_;have B1:=y23h (zba HI.out.own HI.out.bel (Nat.le_refl _) hgr HI.out.bel.size);have HBP:=y23h (fun ty=>zbg ty hown (RB.out.later B1.out) (by have:=HDL.out;have:=HNB.out;omega) B1.out.size);have HW:=y23h hown;obtain ⟨o1,c1,rfl⟩:=hown.len;clear HAP hgr hown)
         | (at_builtin;obtain ⟨v2,w2,hrun2,hown2,hgr2⟩:=HBP.out _;refine Lib.wpList_append_run _ rfl _ _ _ _ rfl _ _ rfl rfl _ _ hrun2 ?_))
       go_ret
       exact ⟨_,rfl,by rw [E.out] at hown2;exact hown2.row HO.out,zba HW.out B1.out (Nat.le_refl _) hgr2 B1.out.size⟩
   · obtain ⟨x,la,rfl⟩:∃ x l',la = x :: l':=by
       cases la with
       | nil=>exact absurd (.inl rfl) hex
       | cons x l'=>exact ⟨x,l',rfl⟩
     obtain ⟨y,lb,rfl⟩:∃ y l',lb = y :: l':=by
       cases lb with
       | nil=>exact absurd (.inr rfl) hex
       | cons y l'=>exact ⟨y,l',rfl⟩
     clear hex
     have OKx:=y23h (ha.oks x (by simp))
     have OKy:=y23h (hb.oks y (by simp))
     obtain ⟨ba,oA,ca,rfl,ka1,ka2,ka3,ka4,ka5⟩:=zo2 ha
     obtain ⟨bb,oB,cb,rfl,kb1,kb2,kb3,kb4,kb5⟩:=zo2 hb
     have RA:=y23h ka5
     have RB:=y23h kb5
     clear ha hb ka5 kb5
     have bel:=HI.out.bel
     have za:=Nat.lt_of_lt_of_le ka3 bel.size
     have zb:=Nat.lt_of_lt_of_le kb3 bel.size
     have KA:=y23h (ka4.later ka3 bel)
     have KB:=y23h (kb4.later kb3 bel)
     clear bel ka4 kb4
     go_upto_region 3 with fail
     go_cut [6,7] (fun s6 s7 wx=>∃ bx bz,s6 = .pointer (some ⟨bx,0,none⟩) ∧ s7 = .pointer (some ⟨bz,0,none⟩) ∧ wr.heap.size ≤ bx ∧ bx ≠ bz ∧ Hid (Own wx bx (iA x) 69 ∧ Own wx bz (iA y) 69 ∧ Below wr.heap.size wr wx))
     case first =>
       go_region_held3 (fun w'=>At8 w' ba oA x ∧ At8 w' bb oB y) (first | with_reducible exact ⟨KA.out,KB.out⟩ | (refine ⟨At8.later KA.out za ?_,At8.later KB.out zb ?_⟩ <;> (repeat (first | exact Below.refl _ _ | refine Below.drew ?_ | refine Below.alloc ?_ (by simp) _ | refine Below.setCell ?_ (by simp) _)))) (fail)
       all_goals (go_wp2_with fail)
       all_goals go_meet
       · exact ⟨_,_,rfl,rfl,Nat.le_refl _,by omega,((Own.new wr (iA x) 69).alloc _).drew,(Own.newAt (wr.alloc (.cells (iA x) 69)) (iA y) 69 (by simp)).drew,(((Below.refl _ _).alloc (Nat.le_refl _) _).alloc (by simp) _).drew⟩
       · exact ⟨_,_,rfl,rfl,by omega,by omega,(Own.newAt (wr.alloc (.cells (iA y) 69)) (iA x) 69 (by simp)).drew,((Own.new wr (iA y) 69).alloc _).drew,(((Below.refl _ _).alloc (Nat.le_refl _) _).alloc (by simp) _).drew⟩
     case rest =>
       clear KA KB
       obtain ⟨bx,bz,rfl,rfl,KX,KN,HC⟩:=hcut
       generalize wc = wq at *
       have OX:=y23h HC.out.1
       have OY:=y23h HC.out.2.1
       have BW:=y23h HC.out.2.2
       have HNE:=y23h KN
       have lX:=OX.out.cell
       have zX:=OX.out.lt
       have lY:=OY.out.cell
       have zY:=OY.out.lt
       have fX:=OX.out.free
       have gA:(1:Int) ≤ ((la.length + 1:Nat):Int):=by omega
       have gB:(1:Int) ≤ ((lb.length + 1:Nat):Int):=by omega
       clear HC KN
       rcases zdd x.id y.id with h | h | h
       · have C:=y23h (show cmpS x.id y.id = -1 by unfold cmpS;rw [if_pos h])
         have EQ:=y23h (show mrgI behT (x :: la) (y :: lb) = x :: mrgI behT la (y :: lb) by rw [zdz,if_pos h])
         clear h
         go_upto_region 11 with (go_at_call 143;refine (CS _ _ _).out.mono ?_;rintro e w5 ⟨rfl,rfl⟩;rw [C.out])
         all_goals
           have HI2:=y23h (HI.out.own.later BW.out)
           have BEL2:=y23h (HI.out.bel.trans (BW.out.mono HI.out.bel.size))
           have OQ:=y23h (HI2.out.alloc (.cells (iA x) 69))
           have BQ:=y23h (BEL2.out.alloc BEL2.out.size (.cells (iA x) 69))
           have HAP:=y23h (fun ty=>zbg ty OQ.out (ze7 wq x 69 OKx.out) (by have:=HI.out.len;simp only [List.length_cons,List.length_nil] at *;omega) BQ.out.size)
           go_wp2_with (at_builtin;obtain ⟨v1,w1,hrun,hown,hgr⟩:=HAP.out _;refine Lib.wpList_append_run _ rfl _ _ _ _ rfl _ _ rfl rfl _ _ hrun ?_)
           have HB2:=y23h (zba OQ.out BQ.out (Nat.le_refl _) hgr BQ.out.size)
           go_roundw
           case rel=>exact ⟨la,y :: lb,D ++ [x],by exact zd1 RA.out rfl,RB.out,y23h (zej HI.out hown HB2.out EQ.out (by simp only [List.length_cons];omega))⟩
           case measure=>simp [lenV]
       · have C:=y23h (show cmpS x.id y.id = 0 by unfold cmpS;rw [h,zbe];rfl)
         have hm2:mrgI behT (x :: la) (y :: lb) = (if behT y x = true then y else x) :: mrgI behT la lb:=by rw [zdz,h,zbe];simp
         cases hbh:behT y x
         · have EQ:=y23h (show mrgI behT (x :: la) (y :: lb) = x :: mrgI behT la lb by rw [hm2,hbh];rfl)
           have g9:decide (0 < cmpT y x) = false:=by rw [zqc];exact hbh
           clear h hm2 hbh
           go_upto_region 11 with (first | (go_at_call 143;refine (CS _ _ _).out.mono ?_;rintro e w5 ⟨rfl,rfl⟩;rw [C.out]) | (go_at_call 144;refine (CT _ _ _).out.mono ?_;rintro e w6 ⟨rfl,hb6⟩;replace OX:=y23h (OX.out.later hb6);replace OY:=y23h (OY.out.later hb6);replace BW:=y23h (BW.out.trans (hb6.mono BW.out.size));have l6:=OX.out.cell;have z6:=OX.out.lt;clear hb6))
           all_goals
             have HI2:=y23h (HI.out.own.later BW.out)
             have BEL2:=y23h (HI.out.bel.trans (BW.out.mono HI.out.bel.size))
             have OQ:=y23h (HI2.out.alloc (.cells (iA x) 69))
             have BQ:=y23h (BEL2.out.alloc BEL2.out.size (.cells (iA x) 69))
             have HAP:=y23h (fun ty=>zbg ty OQ.out (ze7 w6 x 69 OKx.out) (by have:=HI.out.len;simp only [List.length_cons,List.length_nil] at *;omega) BQ.out.size)
             go_wp2_with (at_builtin;obtain ⟨v1,w1,hrun,hown,hgr⟩:=HAP.out _;refine Lib.wpList_append_run _ rfl _ _ _ _ rfl _ _ rfl rfl _ _ hrun ?_)
             have HB2:=y23h (zba OQ.out BQ.out (Nat.le_refl _) hgr BQ.out.size)
             go_roundw
             case rel=>exact ⟨la,lb,D ++ [x],by exact zd1 RA.out rfl,by exact zd1 RB.out rfl,y23h (zej HI.out hown HB2.out EQ.out (by simp only [List.length_cons];omega))⟩
             case measure=>simp [lenV];omega
         · have EQ:=y23h (show mrgI behT (x :: la) (y :: lb) = y :: mrgI behT la lb by rw [hm2,hbh];rfl)
           have g9:decide (0 < cmpT y x) = true:=by rw [zqc];exact hbh
           clear h hm2 hbh
           go_upto_region 11 with (first | (go_at_call 143;refine (CS _ _ _).out.mono ?_;rintro e w5 ⟨rfl,rfl⟩;rw [C.out]) | (go_at_call 144;refine (CT _ _ _).out.mono ?_;rintro e w6 ⟨rfl,hb6⟩;replace OX:=y23h (OX.out.later hb6);replace OY:=y23h (OY.out.later hb6);replace BW:=y23h (BW.out.trans (hb6.mono BW.out.size));have l6:=OX.out.cell;have z6:=OX.out.lt;have f6:=OX.out.free;have l7:=OY.out.cell;have z7:=OY.out.lt;clear hb6))
           all_goals
             have key:=And.intro (zbj OX.out (.string y.id) (.int .i64 y.r) (.int .i64 y.c) (.int .i64 y.st) (.string y.kd) (.int .i64 y.num) (.complex .f64 y.x y.y) (.bool y.d)) (za5 (b:=bx) BW.out KX (.string y.id) (.int .i64 y.r) (.int .i64 y.c) (.int .i64 y.st) (.string y.kd) (.int .i64 y.num) (.complex .f64 y.x y.y) (.bool y.d))
             unfold st8 at key
             revert key
             generalize World.setCell (World.setCell (World.setCell (World.setCell (World.setCell (World.setCell (World.setCell (World.setCell _ _ _) _ _) _ _) _ _) _ _) _ _) _ _) _ _ = WW
             rintro ⟨OX3,bw3⟩
             have HI2:=y23h (HI.out.own.later bw3)
             have BEL2:=y23h (HI.out.bel.trans (bw3.mono HI.out.bel.size))
             have l3:=OX3.cell
             have z3:=OX3.lt
             clear bw3 OX3
             have OQ:=y23h (HI2.out.alloc (.cells (iA y) 69))
             have BQ:=y23h (BEL2.out.alloc BEL2.out.size (.cells (iA y) 69))
             have HAP:=y23h (fun ty=>zbg ty OQ.out (ze7 WW y 69 OKy.out) (by have:=HI.out.len;simp only [List.length_cons,List.length_nil] at *;omega) BQ.out.size)
             go_wp2_with (at_builtin;obtain ⟨v1,w1,hrun,hown,hgr⟩:=HAP.out _;refine Lib.wpList_append_run _ rfl _ _ _ _ rfl _ _ rfl rfl _ _ hrun ?_)
             have HB2:=y23h (zba OQ.out BQ.out (Nat.le_refl _) hgr BQ.out.size)
             go_roundw
             case rel=>exact ⟨la,lb,D ++ [y],by exact zd1 RA.out rfl,by exact zd1 RB.out rfl,y23h (zej HI.out hown HB2.out EQ.out (by simp only [List.length_cons];omega))⟩
             case measure=>simp [lenV];omega
       · have C:=y23h (show cmpS x.id y.id = 1 by unfold cmpS;rw [zdn h,h];rfl)
         have EQ:=y23h (show mrgI behT (x :: la) (y :: lb) = y :: mrgI behT (x :: la) lb by rw [zdz,zdn h,h];simp)
         clear h
         go_upto_region 11 with (go_at_call 143;refine (CS _ _ _).out.mono ?_;rintro e w5 ⟨rfl,rfl⟩;rw [C.out])
         all_goals
           have key:=And.intro (zbj OX.out (.string y.id) (.int .i64 y.r) (.int .i64 y.c) (.int .i64 y.st) (.string y.kd) (.int .i64 y.num) (.complex .f64 y.x y.y) (.bool y.d)) (za5 (b:=bx) BW.out KX (.string y.id) (.int .i64 y.r) (.int .i64 y.c) (.int .i64 y.st) (.string y.kd) (.int .i64 y.num) (.complex .f64 y.x y.y) (.bool y.d))
           unfold st8 at key
           revert key
           generalize World.setCell (World.setCell (World.setCell (World.setCell (World.setCell (World.setCell (World.setCell (World.setCell _ _ _) _ _) _ _) _ _) _ _) _ _) _ _) _ _ = WW
           rintro ⟨OX3,bw3⟩
           have HI2:=y23h (HI.out.own.later bw3)
           have BEL2:=y23h (HI.out.bel.trans (bw3.mono HI.out.bel.size))
           have l3:=OX3.cell
           have z3:=OX3.lt
           clear bw3 OX3
           have OQ:=y23h (HI2.out.alloc (.cells (iA y) 69))
           have BQ:=y23h (BEL2.out.alloc BEL2.out.size (.cells (iA y) 69))
           have HAP:=y23h (fun ty=>zbg ty OQ.out (ze7 WW y 69 OKy.out) (by have:=HI.out.len;simp only [List.length_cons,List.length_nil] at *;omega) BQ.out.size)
           go_wp2_with (at_builtin;obtain ⟨v1,w1,hrun,hown,hgr⟩:=HAP.out _;refine Lib.wpList_append_run _ rfl _ _ _ _ rfl _ _ rfl rfl _ _ hrun ?_)
           have HB2:=y23h (zba OQ.out BQ.out (Nat.le_refl _) hgr BQ.out.size)
           go_roundw
           case rel=>exact ⟨x :: la,lb,D ++ [y],RA.out,by exact zd1 RB.out rfl,y23h (zej HI.out hown HB2.out EQ.out (by simp only [List.length_cons];omega))⟩
           case measure=>simp [lenV]
def zfl (nm:ByteArray → Bool) (f:Fr):Bool:=mayV f.v && f.ids.all nm
def mayK (nm:ByteArray → Bool) (a:Kn):Bool:=(zby a (zai a) && mayV a.star) && a.l.all (zfl nm)
structure MkS (w:World) (X:Array Value) (wr:World):Prop where
 o1:Has wr w.heap.size X
 bel:Below w.heap.size w wr
theorem MkS.later {w wr w':World} {X:Array Value} (h:MkS w X wr) (hb:Below wr.heap.size wr w'):MkS w X w' :=
 ⟨h.o1.below hb h.o1.lt,h.bel.trans (hb.mono h.bel.size)⟩
structure St where
 r:Int
 f:Pr
 store:List Itm
 out:List Itm
 k:Kn
 count:Int
 clock:Int
 epoch:Int
abbrev prV (p:Pr) (v:Value):Value:=.agg #[.int .i64 p.op,.string p.text,.int .i64 p.n,.complex .f64 p.x p.y,v]
abbrev stA (s:St) (fv sv ov kv:Value):Array Value:=#[.int .i64 s.r,.int .i64 s.f.op,.string s.f.text,.int .i64 s.f.n,.complex .f64 s.f.x s.f.y,fv,sv,ov,.int .i64 (s.k.star 0),.int .i64 (s.k.star 1),.int .i64 (s.k.star 2),.int .i64 (s.k.star 3),.int .i64 (s.k.star 4),.int .i64 (s.k.star 5),.int .i64 (s.k.star 6),.int .i64 (s.k.star 7),kv,.int .i64 s.count,.int .i64 s.clock,.int .i64 s.epoch]
abbrev stV (s:St) (fv sv ov kv:Value):Value:=.agg #[.int .i64 s.r,.int .i64 s.f.op,.string s.f.text,.int .i64 s.f.n,.complex .f64 s.f.x s.f.y,fv,sv,ov,.int .i64 (s.k.star 0),.int .i64 (s.k.star 1),.int .i64 (s.k.star 2),.int .i64 (s.k.star 3),.int .i64 (s.k.star 4),.int .i64 (s.k.star 5),.int .i64 (s.k.star 6),.int .i64 (s.k.star 7),kv,.int .i64 s.count,.int .i64 s.clock,.int .i64 s.epoch]
structure StW (w:World) (s:St) (fv sv ov kv:Value):Prop where
 lf:LP w s.f fv
 ls:Row 8 ic w s.store sv
 lo:Row 8 ic w s.out ov
 lk:FrW w s.k.l kv
theorem StW.later {w w':World} {s:St} {fv sv ov kv:Value} (h:StW w s fv sv ov kv) (hb:Below w.heap.size w w'):StW w' s fv sv ov kv :=
 ⟨h.lf.later hb (Nat.le_refl _),h.ls.later hb,h.lo.later hb,h.lk.later hb (Nat.le_refl _)⟩
theorem StW.alloc {w:World} {s:St} {fv sv ov kv:Value} (h:StW w s fv sv ov kv) (o:Obj):StW (w.alloc o) s fv sv ov kv:=h.later ((Below.refl _ _).alloc (Nat.le_refl _) _)
theorem StW.drew {w:World} {s:St} {fv sv ov kv:Value} (h:StW w s fv sv ov kv):StW w.drew s fv sv ov kv:=h.later (Below.refl _ _).drew
theorem StW.regrown {w:World} {s:St} {fv sv ov kv:Value} (h:StW w s fv sv ov kv) (d:Nat) (os:Array Obj):StW (Sort.grow (redrawn w d) os) s fv sv ov kv:=h.later (below_regrown w d os)
structure StB (s:St):Prop where
 f:s.f.size ≤ 60
 ls:s.store.length ≤ 200
 lo:s.out.length ≤ 200
 kl:s.k.l.length ≤ 2000
 ki:(zaf s.k.l).length ≤ 5000
def Itm.it (i:Itm):It:=⟨i.id,i.kd,i.num,i.x,i.y⟩
def hasT (f:Pr) (i:Itm):Bool:=f.hasB i.it
theorem zrr (i:Itm) (hid:i.id.size ≤ maxLen) (p:Pr) (v:Value) (w:World) (h:LP w p v) (hp:p.size ≤ 1000) :
   Calls Tryz.prog 92 #[prV p v,iV i] w fun e w'=>e = .returned (.bool (hasT p i)) ∧ Below w.heap.size w w' :=
 zou i.it i.r i.c i.st i.d hid p v w h hp
def beyS (k:Kn) (r count:Int):Bool:=decide (count < cntV k.star r) || k.l.any fun q=>decide (count < cntV q.v r)
def zo7 (s:St) (want:Bool) (i:Itm):Bool:=(hasT s.f i == want) && (hasK s.k i.id i.r i.c && decide (i.st ≤ s.clock))
def zkp (s:St) (l:List Itm) (want:Bool):Bool:=l.all (zo7 s want)
def zu3 (s:St):Bool:=s.out.all fun i=>!(getI s.store i.id).2
def numS (s:St):Bool:=inB s.count 0 1000 && (inB s.clock 0 1000000 && inB s.epoch 0 1000000)
def zxq (s:St):Bool:=Pr.mayB s.f && (zbm s.store && (zbm s.out && (mayK zaz s.k && (inB s.r 1 8 && decide (s.store.length + s.out.length ≤ 40)))))
def mayS (s:St):Bool:=zxq s && (numS s && (zu3 s && (zkp s s.store true && (zkp s s.out false && !beyS s.k s.r s.count))))
def zkn (a b:St):Bool:=(decide (a.r = b.r) && (decide (a.count = b.count) && (decide (a.clock = b.clock) && decide (a.epoch = b.epoch)))) && (Pr.same a.f b.f && (zbx zcx a.store b.store && (zbx zcx a.out b.out && zby a.k b.k)))
end Go.Proofs.YthnllikalobmeaaGreat
