/- Joined: RefSt6, StGood, LCM, StGood2. -/
import Derived.Test.YthnllikalobmeaaGreatJ19
import Derived.Test.YthnllikalobmeaaGreatJ22
import Derived.Test.YthnllikalobmeaaGreatJ18
import Derived.Test.YthnllikalobmeaaGreatJ08
namespace Go.Proofs.YthnllikalobmeaaGreat
set_option linter.unusedVariables false
set_option linter.unusedSimpArgs false
set_option maxRecDepth 100000
set_option maxHeartbeats 8000000
open Go.RowKit
theorem y23h {p:Prop} (h:p):Hid p:=Lib.hid h
abbrev zak (s:St) (x:Itm):Itm:=⟨x.id,s.r,s.count + 1,s.clock + 1,x.kd,x.num,x.x,x.y,x.d⟩
abbrev cntS (s:St):St:=⟨s.r,s.f,s.store,s.out,s.k,s.count + 1,s.clock + 1,s.epoch⟩
def preS (s:St) (x:Itm):St:=⟨s.r,s.f,s.store,s.out,⟨(ownK s.k x.id s.r (s.count + 1)).star,(zah (ownK s.k x.id s.r (s.count + 1))).l⟩,s.count + 1,s.clock + 1,s.epoch⟩
def za0 (s:St) (x:Itm):St:=znt (preS s x) (zak s x) true
def zbe (s:St):Bool:=decide (s.count = 1000) || decide (s.clock = 1000000)
def zhd (X:World) (b:Nat) (c0 c1 c2 c3 c4 c5 c6 c7 c8:Value):World:=((((((((X.setCell ⟨b,8,none⟩ c0).setCell ⟨b,9,none⟩ c1).setCell ⟨b,10,none⟩ c2).setCell ⟨b,11,none⟩ c3).setCell ⟨b,12,none⟩ c4).setCell ⟨b,13,none⟩ c5).setCell ⟨b,14,none⟩ c6).setCell ⟨b,15,none⟩ c7).setCell ⟨b,16,none⟩ c8
theorem FrFresh.stays {w w':World} {B:Nat} {l:List Fr} {v:Value} (h:FrFresh w B l v) (hb:Below w.heap.size w w'):FrFresh w' B l v:=fun w'' h1 h2 =>
 h w'' (fun b hB hlt=>(h1 b hB (Nat.lt_of_lt_of_le hlt hb.size)).trans (hb.block b hlt)) (Nat.le_trans hb.size h2)
theorem FrFresh.sets {B b:Nat} {l:List Fr} {v:Value} (hb:b < B) (vs:List Value):∀ {w:World} (o:Nat),FrFresh w B l v → FrFresh (w.setCells b o vs) B l v:=by
 induction vs with
 | nil=>intro w o h;exact h
 | cons u vs ih=>intro w o h;exact ih (o + 1) (h.setLow (a:=⟨b,o,none⟩) hb u)
theorem zpy (s:St) (fv sv ov kv:Value) (x:Itm) (v:Value) (c:Nat → Value) (hc:∀ j,j < 8 → c j = .int .i64 ((ownK s.k x.id s.r (s.count + 1)).star j)) :
   (((((((((stA (cntS s) fv sv ov kv).setIfInBounds 8 (c 0)).setIfInBounds 9 (c 1)).setIfInBounds 10 (c 2)).setIfInBounds 11 (c 3)).setIfInBounds 12 (c 4)).setIfInBounds 13 (c 5)).setIfInBounds 14 (c 6)).setIfInBounds 15 (c 7)).setIfInBounds 16 v = stA (preS s x) fv sv ov v:=by
 simp [cntS,preS,hc 0 (by omega),hc 1 (by omega),hc 2 (by omega),hc 3 (by omega),hc 4 (by omega),hc 5 (by omega),hc 6 (by omega),hc 7 (by omega)]
theorem z07 {X:World} {b:Nat} {s:St} {fv sv ov kv:Value} (h:Own X b (stA (cntS s) fv sv ov kv) 43) (x:Itm) (v:Value):Own (zhd X b (.int .i64 ((ownK s.k x.id s.r (s.count + 1)).star 0)) (.int .i64 ((ownK s.k x.id s.r (s.count + 1)).star 1)) (.int .i64 ((ownK s.k x.id s.r (s.count + 1)).star 2)) (.int .i64 ((ownK s.k x.id s.r (s.count + 1)).star 3)) (.int .i64 ((ownK s.k x.id s.r (s.count + 1)).star 4)) (.int .i64 ((ownK s.k x.id s.r (s.count + 1)).star 5)) (.int .i64 ((ownK s.k x.id s.r (s.count + 1)).star 6)) (.int .i64 ((ownK s.k x.id s.r (s.count + 1)).star 7)) v) b (stA (preS s x) fv sv ov v) 43:=by
 have h2:=((((((((h.set 8 (.int .i64 ((ownK s.k x.id s.r (s.count + 1)).star 0))).set 9 (.int .i64 ((ownK s.k x.id s.r (s.count + 1)).star 1))).set 10 (.int .i64 ((ownK s.k x.id s.r (s.count + 1)).star 2))).set 11 (.int .i64 ((ownK s.k x.id s.r (s.count + 1)).star 3))).set 12 (.int .i64 ((ownK s.k x.id s.r (s.count + 1)).star 4))).set 13 (.int .i64 ((ownK s.k x.id s.r (s.count + 1)).star 5))).set 14 (.int .i64 ((ownK s.k x.id s.r (s.count + 1)).star 6))).set 15 (.int .i64 ((ownK s.k x.id s.r (s.count + 1)).star 7))).set 16 v
 rw [zpy s fv sv ov kv x v (fun j=>.int .i64 ((ownK s.k x.id s.r (s.count + 1)).star j)) (fun _ _=>rfl)] at h2
 exact h2
theorem zt4 {X:World} {b' b:Nat} {c:Array Value} {T:TypeId} (h:Own X b' c T) (hne:b' ≠ b) (c0 c1 c2 c3 c4 c5 c6 c7 c8:Value):Own (zhd X b c0 c1 c2 c3 c4 c5 c6 c7 c8) b' c T :=
 ((((((((h.setFar _ _ hne).setFar _ _ hne).setFar _ _ hne).setFar _ _ hne).setFar _ _ hne).setFar _ _ hne).setFar _ _ hne).setFar _ _ hne).setFar _ _ hne
theorem zn2 {X w:World} {B b:Nat} (hb:Below B w X) (hp:B ≤ b) (c0 c1 c2 c3 c4 c5 c6 c7 c8:Value):Below B w (zhd X b c0 c1 c2 c3 c4 c5 c6 c7 c8) :=
 ((((((((hb.setCell (p:=⟨b,8,none⟩) hp _).setCell (p:=⟨b,9,none⟩) hp _).setCell (p:=⟨b,10,none⟩) hp _).setCell (p:=⟨b,11,none⟩) hp _).setCell (p:=⟨b,12,none⟩) hp _).setCell (p:=⟨b,13,none⟩) hp _).setCell (p:=⟨b,14,none⟩) hp _).setCell (p:=⟨b,15,none⟩) hp _).setCell (p:=⟨b,16,none⟩) hp _
theorem zon {X:World} {B b:Nat} {l:List Fr} {v:Value} (h:FrFresh X B l v) (hb:b < B) (c0 c1 c2 c3 c4 c5 c6 c7 c8:Value):FrFresh (zhd X b c0 c1 c2 c3 c4 c5 c6 c7 c8) B l v :=
 ((((((((h.setLow (a:=⟨b,8,none⟩) hb _).setLow (a:=⟨b,9,none⟩) hb _).setLow (a:=⟨b,10,none⟩) hb _).setLow (a:=⟨b,11,none⟩) hb _).setLow (a:=⟨b,12,none⟩) hb _).setLow (a:=⟨b,13,none⟩) hb _).setLow (a:=⟨b,14,none⟩) hb _).setLow (a:=⟨b,15,none⟩) hb _).setLow (a:=⟨b,16,none⟩) hb _
def StX (w:World) (B:Nat) (s s':St) (sv ov kv sv' ov' kv':Value):Prop:=(s' = s ∧ sv' = sv ∧ ov' = ov ∧ kv' = kv) ∨ (s'.f = s.f ∧ RowF w B s'.store sv' ∧ RowF w B s'.out ov' ∧ FrFresh w B s'.k.l kv')
theorem StX.refl (w:World) (B:Nat) (s:St) (sv ov kv:Value):StX w B s s sv ov kv sv ov kv:=.inl ⟨rfl,rfl,rfl,rfl⟩
theorem StX.mono {w:World} {B B':Nat} {s s':St} {sv ov kv sv' ov' kv':Value} (h:StX w B s s' sv ov kv sv' ov' kv') (hb:B' ≤ B):StX w B' s s' sv ov kv sv' ov' kv' :=
 h.imp id fun ⟨h0,h1,h2,h3⟩=>⟨h0,h1.mono hb,h2.mono hb,h3.mono hb⟩
theorem StX.later {w w':World} {B:Nat} {s s':St} {sv ov kv sv' ov' kv':Value} (h:StX w B s s' sv ov kv sv' ov' kv') (hb:Below w.heap.size w w'):StX w' B s s' sv ov kv sv' ov' kv' :=
 h.imp id fun ⟨h0,h1,h2,h3⟩=>⟨h0,h1.later hb,h2.later hb,h3.stays hb⟩
theorem StX.sets {w:World} {B b:Nat} {s s':St} {sv ov kv sv' ov' kv':Value} (h:StX w B s s' sv ov kv sv' ov' kv') (hb:b < B) (vs:List Value):StX (w.setCells b 0 vs) B s s' sv ov kv sv' ov' kv' :=
 h.imp id fun ⟨h0,h1,h2,h3⟩=>⟨h0,h1.sets hb vs 0,h2.sets hb vs 0,h3.sets hb vs 0⟩
theorem StX.lies {w w0:World} {B:Nat} {s s':St} {fv sv ov kv sv' ov' kv':Value} (h:StX w B s s' sv ov kv sv' ov' kv') (h0:StW w0 s fv sv ov kv) (hb:Below w0.heap.size w0 w):StW w s' fv sv' ov' kv':=by
 rcases h with ⟨rfl,rfl,rfl,rfl⟩ | ⟨e,h1,h2,h3⟩
 · exact h0.later hb
 · exact ⟨by rw [e];exact h0.lf.later hb (Nat.le_refl _),h1.row,h2.row,h3.fr⟩
theorem zeo (s:St) (fv sv ov kv:Value) (x:Itm) (w:World) (hS:StW w s fv sv ov kv) (hx:x.id.size ≤ maxLen ∧ x.kd.size ≤ maxLen) (hf:s.f.size ≤ 1000) (h1:s.store.length ≤ 1000) (h2:s.out.length ≤ 1000)
   (hk1:(zag (zap s.k x.id s.r (s.count + 1)).l).length ≤ 10000) (hk2:s.k.l.length ≤ 10000) (hk3:(zag s.k.l).length ≤ 10000) (hc:0 ≤ s.count ∧ s.count ≤ 1000) (ht:0 ≤ s.clock ∧ s.clock ≤ 1000000) :
   Calls Tryz.prog 101 #[stV s fv sv ov kv,iV x] w fun e w' =>
     (zbe s = true ∧ e = .returned (.tuple #[stV s fv sv ov kv,.int .i64 5]) ∧ Below w.heap.size w w') ∨
     (zbe s = false ∧ ∃ sv' ov' kv',e = .returned (.tuple #[stV (za0 s x) fv sv' ov' kv',.int .i64 0]) ∧ StW w' (za0 s x) fv sv' ov' kv' ∧ (RowF w' w.heap.size (za0 s x).store sv' ∧ RowF w' w.heap.size (za0 s x).out ov' ∧ FrFresh w' w.heap.size (za0 s x).k.l kv') ∧ Below w.heap.size w w'):=by
 have OA:=y23h (((Own.new w (stA s fv sv ov kv) 43).alloc (.cells (iA x) 69)).alloc (.cells stZ.toArray 43))
 have OX:=y23h ((Own.newAt (w.alloc (.cells (stA s fv sv ov kv) 43)) (iA x) 69 (b:=w.heap.size + 1) (by simp)).alloc (.cells stZ.toArray 43))
 have OT:=y23h (Own.newAt ((w.alloc (.cells (stA s fv sv ov kv) 43)).alloc (.cells (iA x) 69)) stZ.toArray 43 (b:=w.heap.size + 1 + 1) (by simp))
 have BEL:=y23h ((((Below.refl w.heap.size w).alloc (Nat.le_refl _) (.cells (stA s fv sv ov kv) 43)).alloc (by simp) (.cells (iA x) 69)).alloc (by simp;omega) (.cells stZ.toArray 43))
 have HW:=y23h hS
 have hfv:fv.oneCell' = true:=zar hS.lf
 have hsv:sv.oneCell' = true:=by obtain ⟨_,_,_,_,e,_⟩:=hS.ls;rw [e];rfl
 have hov:ov.oneCell' = true:=by obtain ⟨_,_,_,_,e,_⟩:=hS.lo;rw [e];rfl
 have hkv:kv.oneCell' = true:=by obtain ⟨_,_,e⟩:=hS.lk.val;rw [e];rfl
 unfold Value.oneCell' at hfv hsv hov hkv
 clear hS
 have lOA:=OA.out.cell
 have zOA:=OA.out.lt
 by_cases hfull:s.count = 1000 ∨ s.clock = 1000000
 · have E:=y23h (show zbe s = true by
     unfold zbe
     rcases hfull with h | h
     · rw [decide_eq_true h];rfl
     · rw [decide_eq_true h];simp)
   have hways:(s.count == 1000) = true ∨ ((s.count == 1000) = false ∧ (s.clock == 1000000) = true):=by
     by_cases h:s.count = 1000
     · exact .inl (by rw [beq_iff_eq];exact h)
     · refine .inr ⟨by rw [beq_eq_false_iff_ne];exact h,?_⟩
       rw [beq_iff_eq]
       rcases hfull with h' | h'
       · exact absurd h' h
       · exact h'
   have HK:=y23h (And.intro (OT.out.sets (stA s fv sv ov kv).toList (by rfl)) (zab (b:=w.heap.size + 1 + 1) (by omega) (stA s fv sv ov kv).toList 0 BEL.out))
   have OAR:=y23h OA.out
   have OTR:=y23h OT.out
   clear hfull
   rcases hways with g1 | ⟨g1,g2⟩
   all_goals
     go_enter Tryz.func101,Tryz.ntmps101
     go_wp2_with (first | (refine wpList_load_mid (by rfl) 43 _ (by rfl) w.heap.size 0 (by rfl) (stA s fv sv ov kv).toList _ OAR.out.range Tryz.underlying43 (by rfl) (by kernel_rfl) ?_) | (refine wpList_store_mid (by rfl) 43 _ _ (by rfl) (w.heap.size + 1 + 1) 0 (stA s fv sv ov kv) (by rfl) (by rfl) (OTR.out.there (by rfl)) (by kernel_rfl) (by simp [Value.oneCell',hfv,hsv,hov,hkv]) ?_) | fail)
     revert HK
     generalize World.setCells _ _ _ _ = WW
     intro HK
     refine zae (by rfl) (by rfl) (by rfl) HK.out.1.range Tryz.underlying43 (by rfl) (by kernel_rfl) rfl (.inl ⟨E.out,rfl,HK.out.2⟩)
 · have E:=y23h (show zbe s = false by
     unfold zbe
     rw [decide_eq_false (fun h=>hfull (.inl h)),decide_eq_false (fun h=>hfull (.inr h))];rfl)
   have g1:(s.count == 1000) = false:=by rw [beq_eq_false_iff_ne];exact fun h=>hfull (.inl h)
   have g2:(s.clock == 1000000) = false:=by rw [beq_eq_false_iff_ne];exact fun h=>hfull (.inr h)
   have hc0:=hc.1
   have hc1:=hc.2
   have ht0:=ht.1
   have ht1:=ht.2
   clear hfull hc ht OA OX OT BEL lOA zOA
   have OA:=y23h (((Own.new w (stA (cntS s) fv sv ov kv) 43).alloc (.cells (iA (zak s x)) 69)).alloc (.cells stZ.toArray 43))
   have OX:=y23h ((Own.newAt (w.alloc (.cells (stA (cntS s) fv sv ov kv) 43)) (iA (zak s x)) 69 (b:=w.heap.size + 1) (by simp)).alloc (.cells stZ.toArray 43))
   have OT:=y23h (Own.newAt ((w.alloc (.cells (stA (cntS s) fv sv ov kv) 43)).alloc (.cells (iA (zak s x)) 69)) stZ.toArray 43 (b:=w.heap.size + 1 + 1) (by simp))
   have BEL:=y23h ((((Below.refl w.heap.size w).alloc (Nat.le_refl _) (.cells (stA (cntS s) fv sv ov kv) 43)).alloc (by simp) (.cells (iA (zak s x)) 69)).alloc (by simp;omega) (.cells stZ.toArray 43))
   have CO:=y23h (show Calls Tryz.prog 147 #[knV s.k.star kv,.string x.id,.agg #[.int .i64 s.r,.int .i64 (s.count + 1)]] (((w.alloc (.cells (stA (cntS s) fv sv ov kv) 43)).alloc (.cells (iA (zak s x)) 69)).alloc (.cells stZ.toArray 43)) (fun e w'=>∃ v',e = .returned (knV (ownK s.k x.id s.r (s.count + 1)).star v') ∧ FrFresh w' (((w.alloc (.cells (stA (cntS s) fv sv ov kv) 43)).alloc (.cells (iA (zak s x)) 69)).alloc (.cells stZ.toArray 43)).heap.size (zah (ownK s.k x.id s.r (s.count + 1))).l v' ∧ Below (((w.alloc (.cells (stA (cntS s) fv sv ov kv) 43)).alloc (.cells (iA (zak s x)) 69)).alloc (.cells stZ.toArray 43)).heap.size (((w.alloc (.cells (stA (cntS s) fv sv ov kv) 43)).alloc (.cells (iA (zak s x)) 69)).alloc (.cells stZ.toArray 43)) w') from znj s.k x.id s.r (s.count + 1) kv (((w.alloc (.cells (stA (cntS s) fv sv ov kv) 43)).alloc (.cells (iA (zak s x)) 69)).alloc (.cells stZ.toArray 43)) (HW.out.lk.later BEL.out (Nat.le_refl _)) hx.1 hk1 hk2 hk3 (by omega))
   go_enter Tryz.func101,Tryz.ntmps101
   go_upto_region 8 with (first | (go_at_call 147;refine CO.out.mono ?_;rintro e w3 ⟨v3,rfl,hfr,hb⟩;obtain ⟨o3,c3,rfl⟩:=hfr.fr.val;have zW2:=y23h OA.out.lt;have HFR:=y23h hfr;replace OA:=y23h (OA.out.later hb);replace OX:=y23h (OX.out.later hb);replace OT:=y23h (OT.out.later hb);replace BEL:=y23h (BEL.out.trans (hb.mono BEL.out.size));clear hb hfr;have lOA:=OA.out.cell;have zOA:=OA.out.lt;have fOA:=OA.out.free;have lOX:=OX.out.cell;have zOX:=OX.out.lt;generalize hn3:(zah (ownK s.k x.id s.r (s.count + 1))).l.length = n3 at *) | fail)
   clear lOA zOA fOA lOX zOX CO
   have HP:=And.intro (z07 OA.out x (.slice o3 n3 c3)) (And.intro (zt4 OX.out (show w.heap.size + 1 ≠ w.heap.size by omega) (.int .i64 ((ownK s.k x.id s.r (s.count + 1)).star 0)) (.int .i64 ((ownK s.k x.id s.r (s.count + 1)).star 1)) (.int .i64 ((ownK s.k x.id s.r (s.count + 1)).star 2)) (.int .i64 ((ownK s.k x.id s.r (s.count + 1)).star 3)) (.int .i64 ((ownK s.k x.id s.r (s.count + 1)).star 4)) (.int .i64 ((ownK s.k x.id s.r (s.count + 1)).star 5)) (.int .i64 ((ownK s.k x.id s.r (s.count + 1)).star 6)) (.int .i64 ((ownK s.k x.id s.r (s.count + 1)).star 7)) (.slice o3 n3 c3)) (And.intro (zt4 OT.out (show w.heap.size + 1 + 1 ≠ w.heap.size by omega) (.int .i64 ((ownK s.k x.id s.r (s.count + 1)).star 0)) (.int .i64 ((ownK s.k x.id s.r (s.count + 1)).star 1)) (.int .i64 ((ownK s.k x.id s.r (s.count + 1)).star 2)) (.int .i64 ((ownK s.k x.id s.r (s.count + 1)).star 3)) (.int .i64 ((ownK s.k x.id s.r (s.count + 1)).star 4)) (.int .i64 ((ownK s.k x.id s.r (s.count + 1)).star 5)) (.int .i64 ((ownK s.k x.id s.r (s.count + 1)).star 6)) (.int .i64 ((ownK s.k x.id s.r (s.count + 1)).star 7)) (.slice o3 n3 c3)) (And.intro (zn2 BEL.out (Nat.le_refl _) (.int .i64 ((ownK s.k x.id s.r (s.count + 1)).star 0)) (.int .i64 ((ownK s.k x.id s.r (s.count + 1)).star 1)) (.int .i64 ((ownK s.k x.id s.r (s.count + 1)).star 2)) (.int .i64 ((ownK s.k x.id s.r (s.count + 1)).star 3)) (.int .i64 ((ownK s.k x.id s.r (s.count + 1)).star 4)) (.int .i64 ((ownK s.k x.id s.r (s.count + 1)).star 5)) (.int .i64 ((ownK s.k x.id s.r (s.count + 1)).star 6)) (.int .i64 ((ownK s.k x.id s.r (s.count + 1)).star 7)) (.slice o3 n3 c3)) (zon HFR.out zW2.out (.int .i64 ((ownK s.k x.id s.r (s.count + 1)).star 0)) (.int .i64 ((ownK s.k x.id s.r (s.count + 1)).star 1)) (.int .i64 ((ownK s.k x.id s.r (s.count + 1)).star 2)) (.int .i64 ((ownK s.k x.id s.r (s.count + 1)).star 3)) (.int .i64 ((ownK s.k x.id s.r (s.count + 1)).star 4)) (.int .i64 ((ownK s.k x.id s.r (s.count + 1)).star 5)) (.int .i64 ((ownK s.k x.id s.r (s.count + 1)).star 6)) (.int .i64 ((ownK s.k x.id s.r (s.count + 1)).star 7)) (.slice o3 n3 c3)))))
   clear OA OX OT BEL HFR zW2
   unfold zhd at HP
   revert HP
   generalize World.setCell (World.setCell (World.setCell (World.setCell (World.setCell (World.setCell (World.setCell (World.setCell (World.setCell _ _ _) _ _) _ _) _ _) _ _) _ _) _ _) _ _) _ _ = W4
   intro HP
   have OA:=y23h HP.1
   have OX:=y23h HP.2.1
   have OT:=y23h HP.2.2.1
   have BEL:=y23h HP.2.2.2.1
   have LKF:=y23h HP.2.2.2.2
   clear HP
   have L:=y23h (show Calls Tryz.prog 103 #[stV (preS s x) fv sv ov (.slice o3 n3 c3),iV (zak s x),.bool true] W4 (fun e w'=>∃ sv' ov',e = .returned (stV (za0 s x) fv sv' ov' (.slice o3 n3 c3)) ∧ (StW w' (za0 s x) fv sv' ov' (.slice o3 n3 c3) ∧ RowF w' W4.heap.size (zaq (preS s x) (zak s x)) sv' ∧ RowF w' W4.heap.size (laidOut (preS s x) (zak s x) true) ov') ∧ Below W4.heap.size W4 w') from zhn (preS s x) fv sv ov (.slice o3 n3 c3) (zak s x) true W4 ⟨HW.out.lf.later BEL.out (Nat.le_refl _),HW.out.ls.later BEL.out,HW.out.lo.later BEL.out,LKF.out.fr⟩ hx hf h1 h2)
   have OAR:=y23h OA.out
   have lOX:=OX.out.cell
   have zOX:=OX.out.lt
   have zW4:=y23h OT.out.lt
   clear hx hf h1 h2 hk1 hk2 hk3
   go_wp2_with (first | (refine wpList_load_mid (by rfl) 43 _ (by rfl) w.heap.size 0 (by rfl) (stA (preS s x) fv sv ov (.slice o3 n3 c3)).toList _ OAR.out.range Tryz.underlying43 (by rfl) (by kernel_rfl) ?_) | (go_at_call 103;refine L.out.mono ?_;rintro e w5 ⟨sv',ov',rfl,⟨hst,hrs,hro⟩,hb⟩;have hsv2:sv'.oneCell' = true:=(by obtain ⟨_,_,_,_,e,_⟩:=hrs;rw [e];rfl);have hov2:ov'.oneCell' = true:=(by obtain ⟨_,_,_,_,e,_⟩:=hro;rw [e];rfl);unfold Value.oneCell' at hsv2 hov2;have HST:=y23h hst;have HRS:=y23h hrs;have HRO:=y23h hro;have OTR:=y23h (OT.out.later hb);have BE5:=y23h (BEL.out.trans (hb.mono BEL.out.size));have LK5:=y23h (LKF.out.stays hb);clear hst hrs hro hb lOX zOX) | (refine wpList_store_mid (by rfl) 43 _ _ (by rfl) (w.heap.size + 1 + 1) 0 (stA (za0 s x) fv sv' ov' (.slice o3 n3 c3)) (by rfl) (by rfl) (OTR.out.there (by rfl)) (by kernel_rfl) (by simp [Value.oneCell',hfv,hsv2,hov2]) ?_) | fail)
   have HK:=y23h (And.intro (OTR.out.sets (stA (za0 s x) fv sv' ov' (.slice o3 n3 c3)).toList (by rfl)) (And.intro (zab (b:=w.heap.size + 1 + 1) (by omega) (stA (za0 s x) fv sv' ov' (.slice o3 n3 c3)).toList 0 BE5.out) (And.intro (RowF.sets (b:=w.heap.size + 1 + 1) zW4.out (stA (za0 s x) fv sv' ov' (.slice o3 n3 c3)).toList 0 HRS.out) (And.intro (RowF.sets (b:=w.heap.size + 1 + 1) zW4.out (stA (za0 s x) fv sv' ov' (.slice o3 n3 c3)).toList 0 HRO.out) (FrFresh.sets (b:=w.heap.size + 1 + 1) (by simp) (stA (za0 s x) fv sv' ov' (.slice o3 n3 c3)).toList 0 LK5.out)))))
   clear OTR BE5 HRS HRO LK5 HST
   revert HK
   generalize World.setCells _ _ _ _ = WW
   intro HK
   have hle:w.heap.size ≤ W4.heap.size:=by have:=zW4.out;omega
   refine zae (by rfl) (by rfl) (by rfl) HK.out.1.range Tryz.underlying43 (by rfl) (by kernel_rfl) rfl (.inr ⟨E.out,sv',ov',.slice o3 n3 c3,rfl,⟨HW.out.lf.later HK.out.2.1 (Nat.le_refl _),HK.out.2.2.1.row,HK.out.2.2.2.1.row,HK.out.2.2.2.2.fr⟩,⟨HK.out.2.2.1.mono hle,HK.out.2.2.2.1.mono hle,HK.out.2.2.2.2.mono (by simp;omega)⟩,HK.out.2.1⟩)
theorem z2c {F:ByteArray → Nat → Int} (ids:List ByteArray):∀ {o:List Fr} {f:Fr},f ∈ ids.foldl (zax F) o → (∃ x ∈ ids,f.v = F x) ∨ ∃ g ∈ o,f.v = g.v:=by
 induction ids with
 | nil=>intro o f h;exact .inr ⟨f,h,rfl⟩
 | cons a l ih =>
   intro o f h
   rw [List.foldl_cons] at h
   rcases ih h with ⟨x,hx,e⟩ | ⟨g,hg,e⟩
   · exact .inl ⟨x,by simp [hx],e⟩
   · unfold zax at hg
     split at hg
     · exact .inr ⟨g,hg,e⟩
     · rcases zfh hg with hg | hg | ⟨g',hg',_,hg⟩
       · exact .inr ⟨g,hg,e⟩
       · exact .inl ⟨a,by simp,by rw [e,hg]⟩
       · exact .inr ⟨g',hg',by rw [e,hg]⟩
theorem z2b {F:ByteArray → Nat → Int} (ids:List ByteArray):∀ {o:List Fr} {x:ByteArray},(∃ f ∈ ids.foldl (zax F) o,x ∈ f.ids) → x ∈ ids ∨ ∃ f ∈ o,x ∈ f.ids:=by
 induction ids with
 | nil=>intro o x h;exact .inr h
 | cons a l ih =>
   intro o x h
   rw [List.foldl_cons] at h
   rcases ih h with h | h
   · exact .inl (by simp [h])
   · unfold zax at h
     split at h
     · exact .inr h
     · rcases zrs h with h | h
       · exact .inl (by simp [h])
       · exact .inr h
theorem zrq {k:Kn} {f:Fr} (h:f ∈ (zah k).l):∃ x,f.v = beyB k x:=by
 rcases z2c (zbd k) h with ⟨x,_,e⟩ | ⟨g,hg,_⟩
 · exact ⟨x,e⟩
 · simp at hg
theorem zro {k:Kn} {f:Fr} {x:ByteArray} (h:f ∈ (zah k).l) (hx:x ∈ f.ids):∃ g ∈ k.l,x ∈ g.ids:=by
 rcases z2b (zbd k) ⟨f,h,hx⟩ with h | ⟨g,hg,_⟩
 · exact mem_names.1 h
 · simp at hg
theorem ztv {k:Kn} {j:Nat} {n:Int} (h0:0 ≤ n) (h:∀ f ∈ k.l,f.v j ≤ n) (x:ByteArray):beyB k x j ≤ n:=by
 unfold beyB
 split
 · split
   · exact h0
   · rcases zfk k.l x j with e | ⟨f,hf,_,e⟩
     · omega
     · rw [e];exact h f hf
 · exact h0
theorem mayFr_iff {nm:ByteArray → Bool} {f:Fr}:zc8 nm f = true ↔ (∀ j,j < 8 → 0 ≤ f.v j ∧ f.v j ≤ 1000) ∧ ∀ x ∈ f.ids,nm x = true:=by
 unfold zc8
 rw [Bool.and_eq_true,mayV_iff,List.all_eq_true]
theorem zg6 {nm:ByteArray → Bool} {k:Kn}:mayK nm k = true ↔ (zbp k (zah k) = true ∧ ∀ j,j < 8 → 0 ≤ k.star j ∧ k.star j ≤ 1000) ∧ ∀ f ∈ k.l,zc8 nm f = true:=by
 unfold mayK
 rw [Bool.and_eq_true,Bool.and_eq_true,mayV_iff,List.all_eq_true]
theorem zky {nm:ByteArray → Bool} {k:Kn} (hs:∀ j,j < 8 → 0 ≤ k.star j ∧ k.star j ≤ 1000) (hl:∀ f ∈ k.l,zc8 nm f = true):mayK nm (zah k) = true:=by
 rw [zg6]
 refine ⟨⟨znx (zd4 _) (zrp (zhx k)).symm,hs⟩,fun f hf=>?_⟩
 rw [mayFr_iff]
 obtain ⟨y,e⟩:=zrq hf
 refine ⟨fun j hj=>?_,fun x hx=>?_⟩
 · rw [e]
   exact ⟨zka k y j,ztv (by decide) (fun g hg=>((mayFr_iff.1 (hl g hg)).1 j hj).2) y⟩
 · obtain ⟨g,hg,hm⟩:=zro hf hx
   exact (mayFr_iff.1 (hl g hg)).2 x hm
theorem zp6 (r c:Int) (hc:0 ≤ c) (j:Nat):0 ≤ zaw zad r c j ∧ zaw zad r c j ≤ c:=by
 unfold zaw zad
 split <;> omega
theorem zmo {k:Kn} {id:ByteArray} {r c:Int} (h:mayK zay k = true) (hid:zay id = true) (hc:0 ≤ c ∧ c ≤ 1000):mayK zay (zah (zap k id r c)) = true:=by
 rw [zg6] at h
 refine zky h.1.2 fun f hf=>?_
 rcases List.mem_append.1 hf with hf | hf
 · exact h.2 f hf
 · simp at hf;subst hf
   rw [mayFr_iff]
   exact ⟨fun j _=>⟨(zp6 r c hc.1 j).1,Int.le_trans (zp6 r c hc.1 j).2 hc.2⟩,fun x hx=>by simp at hx;rw [hx];exact hid⟩
theorem zwu {k:Kn} {id:ByteArray} {r c:Int} (h:mayK zay k = true) (hid:zay id = true) (hc:0 ≤ c ∧ c ≤ 1000):mayK zay (zah (ownK k id r c)) = true:=by
 unfold ownK
 split
 · exact zmo h hid hc
 · rw [zg6] at h
   refine zky (fun j hj=>?_) h.2
   have:=h.1.2 j hj
   show 0 ≤ zaw k.star r c j ∧ zaw k.star r c j ≤ 1000
   unfold zaw
   split <;> omega
theorem beyS_iff {k:Kn} {r n:Int}:beyS k r n = false ↔ cntV k.star r ≤ n ∧ ∀ f ∈ k.l,cntV f.v r ≤ n:=by
 unfold beyS
 rw [Bool.or_eq_false_iff,List.any_eq_false]
 simp only [decide_eq_true_eq,decide_eq_false_iff_not]
 constructor
 · rintro ⟨h1,h2⟩;exact ⟨by omega,fun f hf=>by have:=h2 f hf;omega⟩
 · rintro ⟨h1,h2⟩;exact ⟨by omega,fun f hf=>by have:=h2 f hf;omega⟩
theorem zd3 {A:Nat → Int} {r n:Int} (h0:0 ≤ n) (h:1 ≤ r ∧ r ≤ 8 → A (r - 1).toNat ≤ n):cntV A r ≤ n:=by
 unfold cntV
 split
 · rename_i hr;exact h hr
 · exact h0
theorem zke {A:Nat → Int} {r n:Int} (h:cntV A r ≤ n) (hr:1 ≤ r ∧ r ≤ 8):A (r - 1).toNat ≤ n:=by
 unfold cntV at h
 rwa [if_pos hr] at h
theorem zj9 {k:Kn} {r n:Int} (h0:0 ≤ n) (h:beyS k r n = false):beyS (zah k) r n = false:=by
 rw [beyS_iff] at h ⊢
 refine ⟨h.1,fun f hf=>zd3 h0 fun hr=>?_⟩
 obtain ⟨x,e⟩:=zrq hf
 rw [e]
 exact ztv h0 (fun g hg=>zke (h.2 g hg) hr) x
theorem ztu {k:Kn} {r n m:Int} (h:beyS k r n = false) (hm:n ≤ m):beyS k r m = false:=by
 rw [beyS_iff] at h ⊢
 exact ⟨by omega,fun f hf=>by have:=h.2 f hf;omega⟩
theorem zl5 {k:Kn} {id:ByteArray} {r r' c n:Int} (h0:0 ≤ n) (h:beyS k r n = false) (hc:r' = r → c ≤ n) (hc0:0 ≤ c) (hr':1 ≤ r' ∧ r' ≤ 8):beyS (zap k id r' c) r n = false:=by
 rw [beyS_iff] at h ⊢
 refine ⟨h.1,fun f hf=>?_⟩
 rcases List.mem_append.1 hf with hf | hf
 · exact h.2 f hf
 · simp at hf;subst hf
   refine zd3 h0 fun hr=>?_
   show zaw zad r' c (r - 1).toNat ≤ n
   unfold zaw zad
   split
   · rename_i h2
     exact hc (by omega)
   · exact h0
theorem zv4 {k:Kn} {id:ByteArray} {r n:Int} (h0:0 ≤ n) (h:beyS k r n = false) (hr:1 ≤ r ∧ r ≤ 8):beyS (ownK k id r (n + 1)) r (n + 1) = false:=by
 unfold ownK
 split
 · exact zl5 (by omega) (ztu h (by omega)) (fun _=>Int.le_refl _) (by omega) hr
 · rw [beyS_iff] at h ⊢
   refine ⟨zd3 (by omega) fun hr=>?_,fun f hf=>by have:=h.2 f hf;omega⟩
   have:=zke h.1 hr
   show zaw k.star r (n + 1) (r - 1).toNat ≤ n + 1
   unfold zaw
   split <;> omega
theorem zmh {k:Kn} {id:ByteArray} {r c n:Int} (h:hasK k id r c = true) (hb:beyS k r n = false):c ≤ n:=by
 rw [beyS_iff] at hb
 unfold hasK at h
 rw [Bool.or_eq_true] at h
 rcases h with h | h
 · unfold hasV at h
   rw [Bool.and_eq_true,decide_eq_true_eq,decide_eq_true_eq] at h
   omega
 · rw [List.any_eq_true] at h
   obtain ⟨f,hf,h⟩:=h
   unfold zcx hasV at h
   rw [Bool.and_eq_true,Bool.and_eq_true,decide_eq_true_eq,decide_eq_true_eq] at h
   have:=hb.2 f hf
   omega
structure Stood (s:St) (want:Bool) (i:Itm):Prop where
 has:hasT s.f i = want
 knows:hasK s.k i.id i.r i.c = true
 stamp:i.st ≤ s.clock
structure Good (s:St):Prop where
 f:Pr.mayB s.f = true
 st:zba s.store = true
 ou:zba s.out = true
 k:mayK zay s.k = true
 r:1 ≤ s.r ∧ s.r ≤ 8
 n:s.store.length + s.out.length ≤ 40
 c:0 ≤ s.count ∧ s.count ≤ 1000
 t:0 ≤ s.clock ∧ s.clock ≤ 1000000
 e:0 ≤ s.epoch ∧ s.epoch ≤ 1000000
 tw:∀ i ∈ s.out,∀ j ∈ s.store,j.id ≠ i.id
 si:∀ i ∈ s.store,Stood s true i
 so:∀ i ∈ s.out,Stood s false i
 b:beyS s.k s.r s.count = false
theorem inB_iff {n a b:Int}:inB n a b = true ↔ a ≤ n ∧ n ≤ b:=by
 unfold inB;rw [Bool.and_eq_true,decide_eq_true_eq,decide_eq_true_eq]
theorem ztc {s:St} {l:List Itm} {want:Bool}:zc4 s l want = true ↔ ∀ i ∈ l,Stood s want i:=by
 unfold zc4
 rw [List.all_eq_true]
 constructor
 · intro h i hi
   have:=h i hi
   unfold zfp at this
   rw [Bool.and_eq_true,Bool.and_eq_true,beq_iff_eq,decide_eq_true_eq] at this
   exact ⟨this.1,this.2.1,this.2.2⟩
 · intro h i hi
   obtain ⟨h1,h2,h3⟩:=h i hi
   unfold zfp
   rw [Bool.and_eq_true,Bool.and_eq_true,beq_iff_eq,decide_eq_true_eq]
   exact ⟨h1,h2,h3⟩
theorem get_is {l:List Itm} {id:ByteArray}:(getI l id).2 = true ↔ ∃ i ∈ l,i.id = id:=by
 rcases zcr l id with ⟨i,hi,e,h⟩ | ⟨h,h'⟩
 · rw [h];exact ⟨fun _=>⟨i,hi,e⟩,fun _=>rfl⟩
 · rw [h'];exact ⟨fun q=>by simp at q,fun ⟨i,hi,e⟩=>absurd e (h i hi)⟩
theorem mayS_iff {s:St}:mayS s = true ↔ Good s:=by
 unfold mayS zyf numS zil
 simp only [Bool.and_eq_true,inB_iff,ztc,decide_eq_true_eq,List.all_eq_true,Bool.not_eq_true']
 constructor
 · rintro ⟨⟨h1,h2,h3,h4,h5,h6⟩,⟨h7,h8,h9⟩,h10,h11,h12,h13⟩
   refine ⟨h1,h2,h3,h4,h5,h6,h7,h8,h9,fun i hi j hj e=>?_,h11,h12,h13⟩
   have:=h10 i hi
   rw [get_is.2 ⟨j,hj,e⟩] at this;cases this
 · rintro ⟨h1,h2,h3,h4,h5,h6,h7,h8,h9,h10,h11,h12,h13⟩
   refine ⟨⟨h1,h2,h3,h4,h5,h6⟩,⟨h7,h8,h9⟩,fun i hi=>?_,h11,h12,h13⟩
   cases q:(getI s.store i.id).2 with
   | false=>rfl
   | true=>obtain ⟨j,hj,e⟩:=get_is.1 q;exact absurd e (h10 i hi j hj)
theorem Good.rs {s:St} (h:Good s):zao s.store:=(mayLB_iff.1 h.st).2
theorem Good.ro {s:St} (h:Good s):zao s.out:=(mayLB_iff.1 h.ou).2
theorem zf4 {s:St} (h:Good s) (id:ByteArray):(∃ i ∈ s.store,i.id = id ∧ zaf s id = (i,true)) ∨ (∃ i ∈ s.out,i.id = id ∧ zaf s id = (i,true)) ∨ ((∀ i ∈ s.store,i.id ≠ id) ∧ (∀ i ∈ s.out,i.id ≠ id) ∧ zaf s id = (Itm.zero,false)):=by
 unfold zaf
 rw [zoq s.out id h.rs h.ro]
 rcases zcr s.out id with ⟨i,hi,e,hg⟩ | ⟨hn,hg⟩
 · have hs:getI s.store id = (Itm.zero,false):=zc0 fun j hj e'=>h.tw i hi j hj (e'.trans e.symm)
   rw [hg,hs]
   exact .inr (.inl ⟨i,hi,e,by simp⟩)
 · rw [hg]
   rcases zcr s.store id with ⟨j,hj,e,hg'⟩ | ⟨hn',hg'⟩
   · rw [hg'];exact .inl ⟨j,hj,e,by simp⟩
   · rw [hg'];exact .inr (.inr ⟨hn',hn,by simp⟩)
theorem zta {s:St} (h:Good s) {id:ByteArray} (hs:(zaf s id).2 = true):mayT (zaf s id).1 = true ∧ (zaf s id).1.id = id:=by
 rcases zf4 h id with ⟨i,hi,e,hq⟩ | ⟨i,hi,e,hq⟩ | ⟨_,_,hq⟩
 · rw [hq];exact ⟨(mayLB_iff.1 h.st).1 i hi,e⟩
 · rw [hq];exact ⟨(mayLB_iff.1 h.ou).1 i hi,e⟩
 · rw [hq] at hs;cases hs
theorem zq8 {l:List Itm} {id:ByteArray} (h:∃ i ∈ l,i.id = id):(l.filter (neB id)).length + 1 ≤ l.length:=by
 obtain ⟨i,hi,e⟩:=h
 have:(l.filter (neB id)).length < l.length:=by
   rw [List.length_filter_lt_length_iff_exists]
   exact ⟨i,hi,by unfold neB;rw [tl_eq.2 e];simp⟩
 omega
theorem zfa (l:List Itm) (id:ByteArray):(l.filter (neB id)).length ≤ l.length:=List.length_filter_le _ _
theorem mayT_iff {i:Itm}:mayT i = true ↔ zay i.id = true ∧ txtB i.kd = true ∧ (1 ≤ i.r ∧ i.r ≤ 8) ∧ (1 ≤ i.c ∧ i.c ≤ 1000) ∧ (1 ≤ i.st ∧ i.st ≤ 1000000) ∧ (inB i.num (-1000000) 1000000 = true) ∧ mayB i.x i.y = true:=by
 unfold mayT mayI verB
 simp only [Bool.and_eq_true,inB_iff]
 constructor
 · rintro ⟨h1,h2,⟨h3,h4⟩,h5,h6,h7⟩;exact ⟨h1,h2,h3,h4,h5,h6,h7⟩
 · rintro ⟨h1,h2,h3,h4,h5,h6,h7⟩;exact ⟨h1,h2,⟨h3,h4⟩,h5,h6,h7⟩
theorem zoo {s:St} (h:Good s) (hf:zbe s = false):s.count + 1 ≤ 1000 ∧ s.clock + 1 ≤ 1000000:=by
 unfold zbe at hf
 rw [Bool.or_eq_false_iff,decide_eq_false_iff_not,decide_eq_false_iff_not] at hf
 have:=h.c
 have:=h.t
 omega
theorem zia {s:St} {x:Itm} (h:Good s) (hx:mayT (zak s x) = true) (hf:zbe s = false) (hroom:(zaf s x.id).2 = true ∨ s.store.length + s.out.length < 40):Good (za0 s x):=by
 obtain ⟨hc1,ht1⟩:=zoo h hf
 have hc:=h.c
 have ht:=h.t
 have hid:=(mayT_iff.1 hx).1
 have kk:∀ i:Itm,hasK s.k i.id i.r i.c = true → hasK (zah (ownK s.k x.id s.r (s.count + 1))) i.id i.r i.c = true:=fun i hi=>zrl _ _ _ _ _ _ _ (zp7 _ _ _ _ _ _ _ hi)
 have kx:hasK (zah (ownK s.k x.id s.r (s.count + 1))) x.id s.r (s.count + 1) = true:=zrl _ _ _ _ _ _ _ (zlf _ _ h.r.1 h.r.2 (by omega))
 have sx:∀ w,hasT s.f x = w → Stood (za0 s x) w (zak s x):=fun w hw=>⟨hw,kx,Int.le_refl _⟩
 have so:∀ w i,Stood s w i → Stood (za0 s x) w i:=fun w i hi=>⟨hi.has,kk i hi.knows,by have:=hi.stamp;show i.st ≤ s.clock + 1;omega⟩
 have ms:∀ i ∈ (za0 s x).store,(i ∈ s.store ∧ i.id ≠ x.id) ∨ (i = zak s x ∧ hasT s.f x = true):=fun i hi=>by
   change i ∈ zaq (preS s x) (zak s x) at hi
   unfold zaq at hi
   split at hi
   · rename_i hh
     rcases mem_put.1 hi with e | ⟨e,_⟩
     · exact .inr ⟨e,hh⟩
     · exact .inl (mem_drop.1 e)
   · exact .inl (mem_drop.1 hi)
 have mo:∀ i ∈ (za0 s x).out,(i ∈ s.out ∧ i.id ≠ x.id) ∨ (i = zak s x ∧ hasT s.f x = false):=fun i hi=>by
   change i ∈ laidOut (preS s x) (zak s x) true at hi
   unfold laidOut at hi
   split at hi
   · exact .inl (mem_drop.1 hi)
   · rename_i hh
     rw [if_pos rfl] at hi
     rcases mem_put.1 hi with e | ⟨e,_⟩
     · exact .inr ⟨e,Bool.eq_false_iff.2 hh⟩
     · exact .inl (mem_drop.1 e)
 refine ⟨h.f,?_,?_,zwu h.k hid (by omega),h.r,?_,by show 0 ≤ s.count + 1 ∧ s.count + 1 ≤ 1000;omega,by show 0 ≤ s.clock + 1 ∧ s.clock + 1 ≤ 1000000;omega,h.e,fun i hi j hj=>?_,fun i hi=>?_,fun i hi=>?_,?_⟩
 · show zba (zaq (preS s x) (zak s x)) = true
   unfold zaq
   split
   · exact zrj (ze5 h.st) hx
   · exact ze5 h.st
 · show zba (laidOut (preS s x) (zak s x) true) = true
   unfold laidOut
   split
   · exact ze5 h.ou
   · rw [if_pos rfl];exact zrj (ze5 h.ou) hx
 · show (zaq (preS s x) (zak s x)).length + (laidOut (preS s x) (zak s x) true).length ≤ 40
   have hn:=h.n
   have f1:=zfa s.store x.id
   have f2:=zfa s.out x.id
   have p1:=zcu (s.store.filter (neB x.id)) (zak s x)
   have p2:=zcu (s.out.filter (neB x.id)) (zak s x)
   have hd:(s.store.filter (neB x.id)).length + (s.out.filter (neB x.id)).length + 1 ≤ 40:=by
     rcases zf4 h x.id with ⟨i,hi,e,hq⟩ | ⟨i,hi,e,hq⟩ | ⟨_,_,hq⟩
     · have:=zq8 ⟨i,hi,e⟩;omega
     · have:=zq8 ⟨i,hi,e⟩;omega
     · rcases hroom with hr | hr
       · rw [hq] at hr;cases hr
       · omega
   unfold zaq laidOut
   simp only [if_pos]
   cases hasT (preS s x).f (zak s x) with
   | true=>simp only [if_true];show (putI (s.store.filter (neB x.id)) (zak s x)).length + (s.out.filter (neB x.id)).length ≤ 40;omega
   | false=>simp only [Bool.false_eq_true,if_false];show (s.store.filter (neB x.id)).length + (putI (s.out.filter (neB x.id)) (zak s x)).length ≤ 40;omega
 · rcases mo i hi with ⟨a1,a2⟩ | ⟨a1,a2⟩
   · rcases ms j hj with ⟨b1,b2⟩ | ⟨b1,b2⟩
     · exact h.tw i a1 j b1
     · rw [b1];exact fun e=>a2 e.symm
   · rcases ms j hj with ⟨b1,b2⟩ | ⟨b1,b2⟩
     · rw [a1];exact b2
     · rw [a2] at b2;cases b2
 · rcases ms i hi with ⟨a1,_⟩ | ⟨a1,a2⟩
   · exact so _ i (h.si i a1)
   · rw [a1];exact sx _ a2
 · rcases mo i hi with ⟨a1,_⟩ | ⟨a1,a2⟩
   · exact so _ i (h.so i a1)
   · rw [a1];exact sx _ a2
 · exact zj9 (by show 0 ≤ s.count + 1;omega) (zv4 hc.1 h.b h.r)
def posI (l:List Itm) (id:ByteArray):Nat:=l.countP fun i=>lsB i.id id
def hitI (l:List Itm) (id:ByteArray):Bool:=match l[posI l id]? with
 | some i=>i.id.toList == id.toList
 | none=>false
def toI (l:List Itm) (id:ByteArray):Nat:=if hitI l id = true then posI l id + 1 else posI l id
theorem zgj (l:List Itm) (id:ByteArray):posI l id ≤ l.length:=List.countP_le_length
theorem zpj {l:List Itm} {id:ByteArray} (h:∀ i ∈ l,lsB i.id id = false):posI l id = 0:=by
 unfold posI
 rw [List.countP_eq_zero]
 intro i hi;rw [h i hi];simp
theorem zha {a:Itm} {l:List Itm} {id:ByteArray} (h:zao (a :: l)):posI (a :: l) id = if lsB a.id id = true then posI l id + 1 else 0:=by
 split
 · rename_i h1;unfold posI;rw [List.countP_cons_of_pos (p:=fun i:Itm=>lsB i.id id) h1]
 · rename_i h1
   refine zpj fun i hi=>?_
   rw [riseI_cons] at h
   rcases List.mem_cons.1 hi with e | hi
   · subst e;simpa using h1
   · cases h2:lsB i.id id with
     | false=>rfl
     | true=>exact absurd (zbm (h.1 i hi) h2) h1
theorem zlu {l:List Itm} {id:ByteArray} (h:zao l):∀ {j:Nat} {i:Itm},l[j]? = some i → lsB i.id id = decide (j < posI l id):=by
 induction l with
 | nil=>intro j i hj;simp at hj
 | cons a l ih =>
   intro j i hj
   rw [zha h]
   have h':=riseI_cons.1 h
   cases j with
   | zero =>
     simp at hj;subst hj
     cases e:lsB a.id id <;> simp
   | succ j =>
     simp at hj
     rw [ih h'.2 hj]
     cases e:lsB a.id id with
     | true=>simp
     | false =>
       have:posI l id = 0:=by
         refine zpj fun i hi=>?_
         cases h2:lsB i.id id with
         | false=>rfl
         | true=>rw [zbm (h'.1 i hi) h2] at e;cases e
       rw [this];simp
theorem zp1 {l:List Itm} {id:ByteArray} (h:zao l):l.take (posI l id) = l.filter fun i=>lsB i.id id:=by
 induction l with
 | nil=>rfl
 | cons a l ih =>
   have h':=riseI_cons.1 h
   rw [zha h]
   cases e:lsB a.id id with
   | true=>simp [e,ih h'.2]
   | false =>
     have:(a :: l).filter (fun i=>lsB i.id id) = []:=by
       rw [List.filter_eq_nil_iff]
       intro i hi h2
       rcases List.mem_cons.1 hi with q | hi
       · subst q;rw [e] at h2;cases h2
       · rw [zbm (h'.1 i hi) h2] at e;cases e
     rw [this];simp
theorem zwm {a:Itm} {l:List Itm} {id:ByteArray} (h:zao (a :: l)):hitI (a :: l) id = if lsB a.id id = true then hitI l id else (a.id.toList == id.toList):=by
 unfold hitI
 rw [zha h]
 cases e:lsB a.id id with
 | true=>simp only [if_true,List.getElem?_cons_succ]
 | false=>simp only [Bool.false_eq_true,if_false,List.getElem?_cons_zero]
theorem zq6 {l:List Itm} {id:ByteArray} (h:zao l):l.drop (toI l id) = l.filter fun i=>gtB i.id id:=by
 induction l with
 | nil=>simp [toI]
 | cons a l ih =>
   have h':=riseI_cons.1 h
   have ih:=ih h'.2
   unfold toI at *
   rw [zwm h,zha h]
   cases e:lsB a.id id with
   | true =>
     simp only [if_true]
     have e2:gtB a.id id = false:=by rw [zee];exact zdq e
     rw [List.filter_cons_of_neg (by simp [e2]),← ih]
     split <;> rfl
   | false =>
     have hall:∀ i ∈ l,gtB i.id id = true:=fun i hi=>by
       rw [zee]
       rcases zdg a.id id with h1 | h1 | h1
       · rw [h1] at e;cases e
       · rw [← h1];exact h'.1 i hi
       · exact zbm h1 (h'.1 i hi)
     simp only [if_false,Bool.false_eq_true]
     cases e2:(a.id.toList == id.toList) with
     | true =>
       have e3:gtB a.id id = false:=by rw [zee,tl_eq.1 e2];exact zbg _
       rw [List.filter_cons_of_neg (by simp [e3])]
       simp only [if_true,Nat.zero_add,List.drop_succ_cons,List.drop_zero]
       rw [List.filter_eq_self.2 hall]
     | false =>
       have e3:gtB a.id id = true:=by
         rw [zee]
         rcases zdg a.id id with h1 | h1 | h1
         · rw [h1] at e;cases e
         · exact absurd h1 (tl_ne.1 e2)
         · exact h1
       rw [List.filter_cons_of_pos (by simp [e3]),List.filter_eq_self.2 hall]
       simp
theorem zu9 {l:List Itm} {x:Itm} (h:zao l):l.take (posI l x.id) ++ ([x] ++ l.drop (toI l x.id)) = putI l x:=by
 unfold putI
 rw [zp1 h,zq6 h,List.append_assoc]
theorem zsa {l:List Itm} {id:ByteArray} (h:zao l):l.take (posI l id) ++ l.drop (toI l id) = l.filter (neB id):=by
 rw [zp1 h,zq6 h]
 induction l with
 | nil=>rfl
 | cons a l ih =>
   have h':=riseI_cons.1 h
   have ih:=ih h'.2
   rcases zdg a.id id with h1 | h1 | h1
   · have e2:gtB a.id id = false:=by rw [zee];exact zdq h1
     have e3:neB id a = true:=by unfold neB;rw [Bool.not_eq_true',tl_ne];exact zfy h1
     rw [List.filter_cons_of_pos (by simp [h1]),List.filter_cons_of_neg (by simp [e2]),List.filter_cons_of_pos (by simp [e3]),List.cons_append,ih]
   · have e1:lsB a.id id = false:=by rw [h1];exact zbg _
     have e2:gtB a.id id = false:=by rw [zee,h1];exact zbg _
     have e3:neB id a = false:=by unfold neB;rw [Bool.not_eq_false',tl_eq];exact h1
     rw [List.filter_cons_of_neg (by simp [e1]),List.filter_cons_of_neg (by simp [e2]),List.filter_cons_of_neg (by simp [e3]),ih]
   · have e1:lsB a.id id = false:=zdq h1
     have e2:gtB a.id id = true:=by rw [zee];exact h1
     have e3:neB id a = true:=by unfold neB;rw [Bool.not_eq_true',tl_ne];exact fun q=>zfy h1 q.symm
     have hn:l.filter (fun i=>lsB i.id id) = []:=by
       rw [List.filter_eq_nil_iff]
       intro i hi h2
       rw [zdq (zbm h1 (h'.1 i hi))] at h2;cases h2
     rw [hn] at ih
     rw [List.filter_cons_of_neg (by simp [e1]),List.filter_cons_of_pos (by simp [e2]),List.filter_cons_of_pos (by simp [e3]),hn,List.nil_append,← ih,List.nil_append]
theorem zwk {l:List Itm} {id:ByteArray} (h:zao l) (hh:hitI l id = true):∃ i,l[posI l id]? = some i ∧ getI l id = (i,true):=by
 unfold hitI at hh
 cases e:l[posI l id]? with
 | none=>rw [e] at hh;cases hh
 | some i =>
   rw [e] at hh
   exact ⟨i,rfl,zfg h (List.mem_of_getElem? e) (tl_eq.1 hh)⟩
theorem zub {l:List Itm} {id:ByteArray} (h:zao l) (hh:hitI l id = false):getI l id = (Itm.zero,false):=by
 refine zc0 fun i hi e=>?_
 obtain ⟨j,hj,e'⟩:=List.mem_iff_getElem.1 hi
 have hj9:l[j]? = some i:=by rw [List.getElem?_eq_getElem hj,e']
 have h1:=zlu (id:=id) h hj9
 rw [e,zbg] at h1
 have hge:posI l id ≤ j:=by
   have:=of_decide_eq_false h1.symm;omega
 by_cases hq:posI l id = j
 · unfold hitI at hh;rw [hq,hj9] at hh
   have hh':(i.id.toList == id.toList) = false:=hh
   rw [tl_eq.2 e] at hh';cases hh'
 · obtain ⟨p,hp⟩:∃ p,l[posI l id]? = some p:=⟨_,List.getElem?_eq_getElem (by omega)⟩
   have h2:=zlu (id:=id) h hp
   rw [decide_eq_false (by omega)] at h2
   have h3:lsB p.id i.id = true:=by
     have hpw:=h
     unfold zao Rise at hpw
     rw [List.pairwise_map] at hpw
     have hp':=(List.getElem?_eq_some_iff.1 hp)
     have:=List.pairwise_iff_getElem.1 hpw (posI l id) j hp'.1 hj (by omega)
     rw [hp'.2,e'] at this
     exact this
   rw [e,h2] at h3;cases h3
def mrgI (f:Itm → Itm → Bool):List Itm → List Itm → List Itm
 | [],m=>m
 | l,[]=>l
 | x :: l,y :: m=>if lsB x.id y.id = true then x :: mrgI f l (y :: m) else if lsB y.id x.id = true then y :: mrgI f (x :: l) m else (if f y x = true then y else x) :: mrgI f l m
 termination_by l m=>l.length + m.length
theorem zc3 (f:Itm → Itm → Bool) (m:List Itm):mrgI f [] m = m:=by rw [mrgI]
theorem zfz (f:Itm → Itm → Bool) (l:List Itm):mrgI f l [] = l:=by cases l <;> rw [mrgI];simp
theorem zd8 (f:Itm → Itm → Bool) (x y:Itm) (l m:List Itm):mrgI f (x :: l) (y :: m) = if lsB x.id y.id = true then x :: mrgI f l (y :: m) else if lsB y.id x.id = true then y :: mrgI f (x :: l) m else (if f y x = true then y else x) :: mrgI f l m:=by rw [mrgI]
theorem zid {l m:List Itm} (hl:zao l) (hm:zao m) (h:∀ i,i ∈ l ↔ i ∈ m):l = m:=by
 induction l generalizing m with
 | nil =>
   cases m with
   | nil=>rfl
   | cons b m=>have:=(h b).2 (by simp);simp at this
 | cons a l ih =>
   cases m with
   | nil=>have:=(h a).1 (by simp);simp at this
   | cons b m =>
     rw [riseI_cons] at hl hm
     have e:a = b:=by
       rcases List.mem_cons.1 ((h a).1 (by simp)) with e | ha
       · exact e
       rcases List.mem_cons.1 ((h b).2 (by simp)) with e | hb
       · exact e.symm
       have:=zbm (hl.1 b hb) (hm.1 a ha)
       rw [zbg] at this;cases this
     subst e
     congr 1
     refine ih hl.2 hm.2 fun i=>⟨fun hi=>?_,fun hi=>?_⟩
     · rcases List.mem_cons.1 ((h i).1 (by simp [hi])) with e | h'
       · subst e;have:=hl.1 i hi;rw [zbg] at this;cases this
       · exact h'
     · rcases List.mem_cons.1 ((h i).2 (by simp [hi])) with e | h'
       · subst e;have:=hm.1 i hi;rw [zbg] at this;cases this
       · exact h'
theorem zge {l:List Itm} {i:Itm} (h:zao l):i ∈ l ↔ getI l i.id = (i,true):=by
 constructor
 · intro hi;exact zfg h hi rfl
 · intro hg
   rcases zcr l i.id with ⟨j,hj,_,e⟩ | ⟨_,e⟩
   · rw [e] at hg;cases hg;exact hj
   · rw [e] at hg;exact absurd (congrArg Prod.snd hg) (by simp)
theorem zvg {l m:List Itm} (hl:zao l) (hm:zao m) (h:∀ id,getI l id = getI m id):l = m :=
 zid hl hm fun i=>by rw [zge hl,zge hm,h]
theorem zcz (a:Itm) (l:List Itm) (id:ByteArray):getI (a :: l) id = if a.id = id then (a,true) else getI l id:=by
 unfold getI
 rw [List.find?_cons]
 cases h:(a.id.toList == id.toList) with
 | true=>rw [if_pos (tl_eq.1 h)]
 | false=>rw [if_neg (tl_ne.1 h)]
theorem zis {f:Itm → Itm → Bool}:∀ {n:Nat} {l m:List Itm} {i:Itm},l.length + m.length ≤ n → i ∈ mrgI f l m → i ∈ l ∨ i ∈ m:=by
 intro n
 induction n with
 | zero =>
   intro l m i hn hi
   have:l = []:=List.length_eq_zero_iff.1 (by omega)
   subst this;rw [zc3] at hi;exact .inr hi
 | succ n ih =>
   intro l m i hn hi
   cases l with
   | nil=>rw [zc3] at hi;exact .inr hi
   | cons x l =>
     cases m with
     | nil=>rw [zfz] at hi;exact .inl hi
     | cons y m =>
       simp only [List.length_cons] at hn
       rw [zd8] at hi
       split at hi
       · rcases List.mem_cons.1 hi with e | hi
         · subst e;exact .inl (by simp)
         · rcases ih (by simp only [List.length_cons];omega) hi with h | h
           · exact .inl (by simp [h])
           · exact .inr h
       · split at hi
         · rcases List.mem_cons.1 hi with e | hi
           · subst e;exact .inr (by simp)
           · rcases ih (by simp only [List.length_cons];omega) hi with h | h
             · exact .inl h
             · exact .inr (by simp [h])
         · rcases List.mem_cons.1 hi with e | hi
           · subst e;split
             · exact .inr (by simp)
             · exact .inl (by simp)
           · rcases ih (by omega) hi with h | h
             · exact .inl (by simp [h])
             · exact .inr (by simp [h])
theorem zwz {f:Itm → Itm → Bool}:∀ {n:Nat} {l m:List Itm},l.length + m.length ≤ n → zao l → zao m → zao (mrgI f l m):=by
 intro n
 induction n with
 | zero =>
   intro l m hn hl hm
   have:l = []:=List.length_eq_zero_iff.1 (by omega)
   subst this;rw [zc3];exact hm
 | succ n ih =>
   intro l m hn hl hm
   cases l with
   | nil=>rw [zc3];exact hm
   | cons x l =>
     cases m with
     | nil=>rw [zfz];exact hl
     | cons y m =>
       simp only [List.length_cons] at hn
       have hl':=riseI_cons.1 hl
       have hm':=riseI_cons.1 hm
       rw [zd8]
       split
       · rename_i h1
         refine riseI_cons.2 ⟨fun i hi=>?_,ih (by simp only [List.length_cons];omega) hl'.2 hm⟩
         rcases zis (Nat.le_refl _) hi with h | h
         · exact hl'.1 i h
         · rcases List.mem_cons.1 h with e | h
           · subst e;exact h1
           · exact zbm h1 (hm'.1 i h)
       · rename_i h1
         split
         · rename_i h2
           refine riseI_cons.2 ⟨fun i hi=>?_,ih (by simp only [List.length_cons];omega) hl hm'.2⟩
           rcases zis (Nat.le_refl _) hi with h | h
           · rcases List.mem_cons.1 h with e | h
             · subst e;exact h2
             · exact zbm h2 (hl'.1 i h)
           · exact hm'.1 i h
         · rename_i h2
           have e:x.id = y.id:=by
             rcases zdg x.id y.id with q | q | q
             · exact absurd q h1
             · exact q
             · exact absurd q h2
           refine riseI_cons.2 ⟨fun i hi=>?_,ih (by omega) hl'.2 hm'.2⟩
           have e2:(if f y x = true then y else x).id = x.id:=by split;exact e.symm;rfl
           rw [e2]
           rcases zis (Nat.le_refl _) hi with h | h
           · exact hl'.1 i h
           · rw [e];exact hm'.1 i h
theorem zme {x:Itm} {l:List Itm} {id:ByteArray} (h:∀ i ∈ l,lsB x.id i.id = true) (hid:id = x.id ∨ lsB id x.id = true):getI l id = (Itm.zero,false):=by
 refine zc0 fun i hi e=>?_
 have:=h i hi
 rw [e] at this
 rcases hid with q | q
 · rw [q,zbg] at this;cases this
 · have:=zbm q this;rw [zbg] at this;cases this
theorem zzc {f:Itm → Itm → Bool}:∀ {n:Nat} {l m:List Itm} (id:ByteArray),l.length + m.length ≤ n → zao l → zao m → getI (mrgI f l m) id = if (getI m id).2 = true then (if (!(getI l id).2 || f (getI m id).1 (getI l id).1) = true then ((getI m id).1,true) else getI l id) else getI l id:=by
 intro n
 have nl:∀ m:List Itm,∀ id:ByteArray,getI m id = if (getI m id).2 = true then (if (!(getI [] id).2 || f (getI m id).1 (getI [] id).1) = true then ((getI m id).1,true) else getI [] id) else getI [] id:=by
   intro m id
   rw [show getI [] id = (Itm.zero,false) from rfl]
   rcases zcr m id with ⟨j,_,_,e⟩ | ⟨_,e⟩
   · rw [e];simp
   · rw [e];simp
 induction n with
 | zero =>
   intro l m id hn hl hm
   have:l = []:=List.length_eq_zero_iff.1 (by omega)
   subst this;rw [zc3];exact nl m id
 | succ n ih =>
   intro l m id hn hl hm
   cases l with
   | nil=>rw [zc3];exact nl m id
   | cons x l =>
     cases m with
     | nil=>rw [zfz,show getI [] id = (Itm.zero,false) from rfl];simp
     | cons y m =>
       simp only [List.length_cons] at hn
       have hl':=riseI_cons.1 hl
       have hm':=riseI_cons.1 hm
       rw [zd8]
       split
       · rename_i h1
         rw [zcz,ih id (by simp only [List.length_cons];omega) hl'.2 hm,zcz x l id]
         by_cases e:x.id = id
         · rw [if_pos e,if_pos e]
           have:getI (y :: m) id = (Itm.zero,false):=zme (x:=x) (fun i hi=>by
             rcases List.mem_cons.1 hi with q | hi
             · rw [q];exact h1
             · exact zbm h1 (hm'.1 i hi)) (.inl e.symm)
           rw [this];simp
         · rw [if_neg e,if_neg e]
       · rename_i h1
         split
         · rename_i h2
           rw [zcz,ih id (by simp only [List.length_cons];omega) hl hm'.2,zcz y m id]
           by_cases e:y.id = id
           · rw [if_pos e,if_pos e]
             have:getI (x :: l) id = (Itm.zero,false):=zme (x:=y) (fun i hi=>by
               rcases List.mem_cons.1 hi with q | hi
               · rw [q];exact h2
               · exact zbm h2 (hl'.1 i hi)) (.inl e.symm)
             rw [this];simp
           · rw [if_neg e,if_neg e]
         · rename_i h2
           have e:x.id = y.id:=by
             rcases zdg x.id y.id with q | q | q
             · exact absurd q h1
             · exact q
             · exact absurd q h2
           rw [zcz,ih id (by omega) hl'.2 hm'.2,zcz x l id,zcz y m id]
           have e2:(if f y x = true then y else x).id = x.id:=by split;exact e.symm;rfl
           rw [e2]
           by_cases q:x.id = id
           · rw [if_pos q,if_pos q,if_pos (e.symm.trans q)]
             cases hf:f y x <;> simp [hf]
           · rw [if_neg q,if_neg q,if_neg (fun h=>q (e.trans h))]
theorem zwy {f:Itm → Itm → Bool} {l m:List Itm} (hl:zao l) (hm:zao m):mrgI f l m = zat f l m :=
 zvg (zwz (Nat.le_refl _) hl hm) (zej m hl) fun id=>by rw [zzc id (Nat.le_refl _) hl hm,zoq m id hl hm]
theorem ztb {s:St} (h:Good s) {i:Itm} (hi:i ∈ s.store ∨ i ∈ s.out):zaf s i.id = (i,true):=by
 rcases zf4 h i.id with ⟨j,hj,e,hq⟩ | ⟨j,hj,e,hq⟩ | ⟨h1,h2,_⟩
 · rw [hq]
   rcases hi with hi | hi
   · rw [ze8 h.rs hj hi e]
   · exact absurd e (h.tw i hi j hj)
 · rw [hq]
   rcases hi with hi | hi
   · exact absurd e.symm (h.tw j hj i hi)
   · rw [ze8 h.ro hj hi e]
 · rcases hi with hi | hi
   · exact absurd rfl (h1 i hi)
   · exact absurd rfl (h2 i hi)
def filE (s:St) (f:Pr):Int:=if Pr.mayB f = true ∧ ¬(s.f.op = 1 ∧ f.op ≠ 1) then (if s.epoch = 1000000 then 5 else 0) else 1
def filB (s:St) (f:Pr):St:=⟨s.r,f,[],[],⟨zad,[]⟩,s.count,s.clock,s.epoch + 1⟩
def filW (t:St) (x:Itm):St:=⟨t.r,t.f,t.store,t.out,zah (zap t.k x.id x.r x.c),t.count,t.clock,t.epoch⟩
def filP (t:St) (x:Itm):St:=znt (filW t x) x true
def filF (s:St) (f:Pr):St:=(zat behT s.store s.out).foldl filP (filB s f)
def filS (s:St) (f:Pr):St:=if filE s f = 0 then filF s f else s
structure FilI (s:St) (p:Pr) (u:St) (l:List Itm):Prop where
 r:u.r = s.r
 f:u.f = p
 c:u.count = s.count
 t:u.clock = s.clock
 e:u.epoch = s.epoch + 1
 ms:∀ i,i ∈ u.store ↔ i ∈ l ∧ hasT p i = true
 mo:∀ i,i ∈ u.out ↔ i ∈ l ∧ hasT p i = false
 rs:zao u.store
 ro:zao u.out
 k:mayK zay u.k = true
 kn:∀ i ∈ l,hasK u.k i.id i.r i.c = true
 b:beyS u.k s.r s.count = false
 n:u.store.length + u.out.length ≤ l.length
theorem zmp:mayK zay ⟨zad,[]⟩ = true:=by
 have:zah ⟨zad,[]⟩ = ⟨zad,[]⟩:=rfl
 rw [zg6,this]
 exact ⟨⟨zev _,fun j _=>⟨by show (0:Int) ≤ 0;decide,by show (0:Int) ≤ 1000;decide⟩⟩,fun f hf=>by simp at hf⟩
theorem zy4 {s:St} (h:Good s) (f:Pr):FilI s f (filB s f) []:=by
 refine ⟨rfl,rfl,rfl,rfl,rfl,fun i=>?_,fun i=>?_,by simp [filB,zao,Rise],by simp [filB,zao,Rise],zmp,fun i hi=>by simp at hi,?_,by simp [filB]⟩
 · show i ∈ [] ↔ i ∈ [] ∧ _
   simp
 · show i ∈ [] ↔ i ∈ [] ∧ _
   simp
 · rw [beyS_iff]
   have:=h.c
   exact ⟨zd3 this.1 fun _=>this.1,fun f hf=>by simp [filB] at hf⟩
theorem zy7 {s:St} {f:Pr} {t:St} {l:List Itm} {x:Itm} (hc:0 ≤ s.count) (h:FilI s f t l) (hx:mayT x = true) (hb:x.r = s.r → x.c ≤ s.count) (hn:∀ i ∈ l,i.id ≠ x.id):FilI s f (filP t x) (l ++ [x]):=by
 have hxx:=mayT_iff.1 hx
 have hs:∀ i,i ∈ (filP t x).store ↔ i ∈ l ++ [x] ∧ hasT f i = true:=fun i=>by
   show i ∈ zaq (filW t x) x ↔ _
   unfold zaq
   rw [show hasT (filW t x).f x = hasT f x by rw [show (filW t x).f = t.f from rfl,h.f],show (filW t x).store = t.store from rfl,List.mem_append,List.mem_singleton]
   cases hh:hasT f x with
   | true =>
     rw [if_pos rfl,mem_put,mem_drop,h.ms]
     constructor
     · rintro (e | ⟨⟨⟨e1,e2⟩,_⟩,_⟩)
       · exact ⟨.inr e,by rw [e];exact hh⟩
       · exact ⟨.inl e1,e2⟩
     · rintro ⟨e | e,e2⟩
       · exact .inr ⟨⟨⟨e,e2⟩,hn i e⟩,hn i e⟩
       · exact .inl e
   | false =>
     rw [if_neg (by simp),mem_drop,h.ms]
     constructor
     · rintro ⟨⟨e1,e2⟩,_⟩;exact ⟨.inl e1,e2⟩
     · rintro ⟨e | e,e2⟩
       · exact ⟨⟨e,e2⟩,hn i e⟩
       · rw [e,hh] at e2;cases e2
 have ho:∀ i,i ∈ (filP t x).out ↔ i ∈ l ++ [x] ∧ hasT f i = false:=fun i=>by
   show i ∈ laidOut (filW t x) x true ↔ _
   unfold laidOut
   rw [show hasT (filW t x).f x = hasT f x by rw [show (filW t x).f = t.f from rfl,h.f],show (filW t x).out = t.out from rfl,List.mem_append,List.mem_singleton]
   cases hh:hasT f x with
   | true =>
     rw [if_pos rfl,mem_drop,h.mo]
     constructor
     · rintro ⟨⟨e1,e2⟩,_⟩;exact ⟨.inl e1,e2⟩
     · rintro ⟨e | e,e2⟩
       · exact ⟨⟨e,e2⟩,hn i e⟩
       · rw [e,hh] at e2;cases e2
   | false =>
     rw [if_neg (by simp),if_pos rfl,mem_put,mem_drop,h.mo]
     constructor
     · rintro (e | ⟨⟨⟨e1,e2⟩,_⟩,_⟩)
       · exact ⟨.inr e,by rw [e];exact hh⟩
       · exact ⟨.inl e1,e2⟩
     · rintro ⟨e | e,e2⟩
       · exact .inr ⟨⟨⟨e,e2⟩,hn i e⟩,hn i e⟩
       · exact .inl e
 refine ⟨h.r,h.f,h.c,h.t,h.e,hs,ho,?_,?_,zmo h.k hxx.1 (by omega),fun i hi=>?_,?_,?_⟩
 · show zao (zaq (filW t x) x)
   unfold zaq
   split
   · exact zfj (zbh h.rs)
   · exact zbh h.rs
 · show zao (laidOut (filW t x) x true)
   unfold laidOut
   split
   · exact zbh h.ro
   · rw [if_pos rfl];exact zfj (zbh h.ro)
 · rcases List.mem_append.1 hi with hi | hi
   · exact zp7 _ _ _ _ _ _ _ (h.kn i hi)
   · simp at hi;subst hi
     exact zlf _ _ (by omega) (by omega) (by omega)
 · exact zj9 hc (zl5 hc h.b hb (by omega) (by omega))
 · show (zaq (filW t x) x).length + (laidOut (filW t x) x true).length ≤ (l ++ [x]).length
   have hn:=h.n
   have f1:=zfa t.store x.id
   have f2:=zfa t.out x.id
   have p1:=zcu (t.store.filter (neB x.id)) x
   have p2:=zcu (t.out.filter (neB x.id)) x
   unfold zaq laidOut
   rw [List.length_append]
   simp only [if_pos,List.length_cons,List.length_nil]
   cases hasT (filW t x).f x with
   | true=>simp only [if_true];show (putI (t.store.filter (neB x.id)) x).length + (t.out.filter (neB x.id)).length ≤ _;omega
   | false=>simp only [Bool.false_eq_true,if_false];show (t.store.filter (neB x.id)).length + (putI (t.out.filter (neB x.id)) x).length ≤ _;omega
theorem zy8 {s:St} {f:Pr} (hc:0 ≤ s.count) (m:List Itm):∀ {t:St} {l:List Itm},FilI s f t l → zao (l ++ m) → (∀ x ∈ m,mayT x = true ∧ (x.r = s.r → x.c ≤ s.count)) → FilI s f (m.foldl filP t) (l ++ m):=by
 induction m with
 | nil=>intro t l h _ _;rw [List.append_nil];exact h
 | cons x m ih =>
   intro t l h hr hm
   have hn:∀ i ∈ l,i.id ≠ x.id:=fun i hi e=>by
     unfold zao Rise at hr
     rw [List.map_append,List.pairwise_append] at hr
     have:=hr.2.2 i.id (List.mem_map.2 ⟨i,hi,rfl⟩) x.id (by simp)
     rw [e,zbg] at this;cases this
   have h2:=zy7 hc h (hm x (by simp)).1 (hm x (by simp)).2 hn
   have:=ih h2 (by rw [List.append_assoc];exact hr) fun y hy=>hm y (by simp [hy])
   rw [List.append_assoc] at this
   exact this
theorem all_mem {s:St} (h:Good s) (i:Itm):i ∈ zat behT s.store s.out ↔ (i ∈ s.store ∨ i ∈ s.out):=by
 constructor
 · exact zn4 s.out
 · intro hi
   exact (zge (zej s.out h.rs)).2 (ztb h hi)
theorem zq7 {s:St} (h:Good s) (f:Pr):FilI s f (filF s f) (zat behT s.store s.out):=by
 have:=zy8 (f:=f) h.c.1 (zat behT s.store s.out) (zy4 h f) (by simpa using zej s.out h.rs) fun x hx=>by
   rcases (all_mem h x).1 hx with hi | hi
   · exact ⟨(mayLB_iff.1 h.st).1 x hi,fun e=>zmh (h.si x hi).knows (by rw [e];exact h.b)⟩
   · exact ⟨(mayLB_iff.1 h.ou).1 x hi,fun e=>zmh (h.so x hi).knows (by rw [e];exact h.b)⟩
 rw [List.nil_append] at this
 exact this
theorem zwe {s:St} {f:Pr} (h:Good s) (hf:filE s f = 0):Good (filF s f):=by
 have F:=zq7 h f
 have hff:Pr.mayB f = true ∧ s.epoch ≠ 1000000:=by
   unfold filE at hf
   split at hf
   · rename_i q
     split at hf
     · cases hf
     · rename_i q2;exact ⟨q.1,q2⟩
   · cases hf
 have mem:∀ i,i ∈ zat behT s.store s.out → mayT i = true ∧ i.st ≤ s.clock:=fun i hi=>by
   rcases (all_mem h i).1 hi with q | q
   · exact ⟨(mayLB_iff.1 h.st).1 i q,(h.si i q).stamp⟩
   · exact ⟨(mayLB_iff.1 h.ou).1 i q,(h.so i q).stamp⟩
 have he:=h.e
 refine ⟨by rw [F.f];exact hff.1,mayLB_iff.2 ⟨fun i hi=>(mem i ((F.ms i).1 hi).1).1,F.rs⟩,mayLB_iff.2 ⟨fun i hi=>(mem i ((F.mo i).1 hi).1).1,F.ro⟩,F.k,by rw [F.r];exact h.r,?_,by rw [F.c];exact h.c,by rw [F.t];exact h.t,by rw [F.e];omega,fun i hi j hj e=>?_,fun i hi=>?_,fun i hi=>?_,by rw [F.r,F.c];exact F.b⟩
 · have h1:=F.n
   have h2:=zlq (l:=s.store) (m:=s.out) (f:=behT)
   have:=h.n
   omega
 · obtain ⟨a1,a2⟩:=(F.mo i).1 hi
   obtain ⟨b1,b2⟩:=(F.ms j).1 hj
   rw [ze8 (zej s.out h.rs) b1 a1 e,a2] at b2;cases b2
 · obtain ⟨b1,b2⟩:=(F.ms i).1 hi
   exact ⟨by rw [F.f];exact b2,F.kn i b1,by rw [F.t];exact (mem i b1).2⟩
 · obtain ⟨b1,b2⟩:=(F.mo i).1 hi
   exact ⟨by rw [F.f];exact b2,F.kn i b1,by rw [F.t];exact (mem i b1).2⟩
theorem zzq {s:St} (h:Good s) (hf:Pr.same s.f s.f = true):zf3 s s = true:=by
 unfold zf3
 rw [hf,zev,ze9 fun i hi=>zhb (zd7 ((mayLB_iff.1 h.st).1 i hi)).1 (zd7 ((mayLB_iff.1 h.st).1 i hi)).2,ze9 fun i hi=>zhb (zd7 ((mayLB_iff.1 h.ou).1 i hi)).1 (zd7 ((mayLB_iff.1 h.ou).1 i hi)).2]
 simp
end Go.Proofs.YthnllikalobmeaaGreat
