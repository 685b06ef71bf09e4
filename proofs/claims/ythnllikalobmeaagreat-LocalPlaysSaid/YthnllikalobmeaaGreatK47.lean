/- Joined: LocalPlays. -/
import Derived.Test.YthnllikalobmeaaGreatK45
import Derived.Test.YthnllikalobmeaaGreatK37
import Derived.Test.YthnllikalobmeaaGreatK44
import Derived.Test.YthnllikalobmeaaGreatK46
import Derived.Test.YthnllikalobmeaaGreatK32
import Derived.Test.YthnllikalobmeaaGreatK27
import Derived.Test.YthnllikalobmeaaGreatK39
namespace Go.Proofs.YthnllikalobmeaaGreat
set_option linter.unusedVariables false
set_option linter.unusedSimpArgs false
set_option maxRecDepth 100000
set_option maxHeartbeats 8000000
open Go.RowKit
abbrev y47a:=@List.getElem_toArray
abbrev y47b:=@List.getElem_cons_zero
abbrev y47c:=@List.getElem_cons_succ
abbrev y47d:=@List.setIfInBounds_toArray
abbrev y47e:=@List.set_cons_zero
abbrev y47f:=@List.set_cons_succ
theorem y47h {p:Prop} (h:p):Hid p:=Lib.hid h
theorem zws (U:St) (a b c e:Value) (w:World) (h:StW w U a b c e) (hl:U.store.length ≤ 1000) :
   Calls Tryz.prog 22 #[stV U a b c e] w fun q w'=>∃ v',q = .returned v' ∧ Row 8 ic w' (zd8 U) v' ∧ Below w.heap.size w w' :=
 (zmw U a b c e w h (by omega)).mono fun _ _ ⟨v',he,ho,hb⟩=>⟨v',he,ho.row (fun i hi=>h.ls.oks i (List.mem_filter.1 hi).1),hb⟩
theorem zup {U:St} (h:Good U):zbx zcx (zd8 U) (zd8 U) = true :=
 zeu fun i hi=>by
   have:=(mayLB_iff.1 h.st).1 i (List.mem_filter.1 hi).1
   exact zgt (zdy this).1 (zdy this).2
structure PyW (b c:Nat) (U:St) (w0:World) (f5 s5 o5 k5 f7 s7 o7 k7:Value) (wr:World):Prop where
 o8:Own wr b (stA U f5 s5 o5 k5) 43
 o10:Own wr c (stA U f7 s7 o7 k7) 43
 t:Firm b c wr U f5 s5 o5 k5
 v:Firm b c wr U f7 s7 o7 k7
 bel:Below w0.heap.size w0 wr
def z1b (r:Int) (f:Pr) (l:List (De × Value)) (n b c:Nat) (w:World) (iv:Value) (wr:World):Prop :=
 ∃ k:Nat,k ≤ n ∧ iv = .int .i64 k ∧ Hid (∃ f5 s5 o5 k5 f7 s7 o7 k7,PyW b c (zc8 r f l k) w f5 s5 o5 k5 f7 s7 o7 k7 wr)
theorem z1p {r:Int} {f:Pr} (hok:zcu r f = true) (v:Value) (w:World) (h:LP w f v) (hf:f.size ≤ 1000) :
   Calls Tryz.prog 15 #[.int .i64 r,prV f v] w fun e w'=>e = .returned (.tuple #[stV (newS r f) v (.slice none 0 0) (.slice none 0 0) (.slice none 0 0),.int .i64 0]) ∧ Below w.heap.size w w' :=
 (zh0 r f v w h hf).mono fun _ _ ⟨hc,hb⟩=>by
   rcases hc with ⟨_,he⟩ | ⟨ho,_⟩
   · exact ⟨he,hb⟩
   · rw [hok] at ho;cases ho
theorem zi9 (r:Int) (f:Pr) (gv:Value) (l:List (De × Value)) (lv:Value) (w:World) (hL:LT w f gv) (hD:DsW w l lv) :
   Calls Tryz.prog 5 #[.int .i64 r,.agg #[.int .i64 f.op,.string f.text,.int .i64 f.n,.float .f64 f.x,.float .f64 f.y,gv],lv] w fun e w'=>e = .returned (.bool true) ∧ Below w.heap.size w w':=by
 have OP:=y47h (Own.new w #[.int .i64 f.op,.string f.text,.int .i64 f.n,.float .f64 f.x,.float .f64 f.y,gv] 25)
 have BEL:=y47h ((Below.refl w.heap.size w).alloc (Nat.le_refl _) (.cells #[.int .i64 f.op,.string f.text,.int .i64 f.n,.float .f64 f.x,.float .f64 f.y,gv] 25))
 have HL:=y47h hL
 have HDS:=y47h hD
 clear hL hD
 have CU:=fun w'=>y47h (zu6 w')
 have CM:=fun w' h=>y47h (zis f gv w' h)
 have CFW:=fun w' h=>y47h (zth l lv w' h)
 have hff:fewI l = 0 ∨ fewI l = 1:=by
   unfold fewI
   split
   · exact .inr rfl
   · exact .inl rfl
 by_cases hz:fewI l = 0 ∨ 60 < f.size
 · have hways:(fewI l = 0 ∧ (if f.size ≤ 60 then (1:Int) else 0) = 0) ∨ (fewI l = 0 ∧ (if f.size ≤ 60 then (1:Int) else 0) = 1) ∨ (fewI l = 1 ∧ (if f.size ≤ 60 then (1:Int) else 0) = 0):=by
     by_cases h6:f.size ≤ 60
     · rw [if_pos h6]
       rcases hz with h | h
       · exact .inr (.inl ⟨h,rfl⟩)
       · omega
     · rw [if_neg h6]
       rcases hff with h | h
       · exact .inl ⟨h,rfl⟩
       · exact .inr (.inr ⟨h,rfl⟩)
   clear hz hff
   rcases hways with ⟨h1,h2⟩ | ⟨h1,h2⟩ | ⟨h1,h2⟩
   all_goals
     rw [h1] at CFW
     rw [h2] at CM
     clear h1 h2
     go_enter Tryz.func5,Tryz.ntmps5
     go_wp2_with (first | (go_at_call 7;refine (CU _).out.mono ?_;rintro e w1 ⟨rfl,hb⟩;replace OP:=y47h (OP.out.later hb);replace BEL:=y47h (BEL.out.trans (hb.mono BEL.out.size));clear hb) | (refine wpList_load_mid (by rfl) 25 _ (by rfl) w.heap.size 0 (by rfl) #[.int .i64 f.op,.string f.text,.int .i64 f.n,.float .f64 f.x,.float .f64 f.y,gv].toList _ OP.out.range Tryz.underlying25 (by rfl) (by kernel_rfl) ?_) | (go_at_call 9;refine (CM _ (HL.out.later BEL.out (Nat.le_refl _))).out.mono ?_;rintro e w2 ⟨rfl,hb⟩;replace OP:=y47h (OP.out.later hb);replace BEL:=y47h (BEL.out.trans (hb.mono BEL.out.size));clear hb) | (go_at_call 23;refine (CFW _ (HDS.out.later BEL.out)).out.mono ?_;rintro e w3 ⟨rfl,hb⟩;replace OP:=y47h (OP.out.later hb);replace BEL:=y47h (BEL.out.trans (hb.mono BEL.out.size));clear hb) | fail)
     go_ret
     exact ⟨rfl,BEL.out⟩
 · have h1:fewI l = 1:=by rcases hff with h | h;exact absurd (.inl h) hz;exact h
   have h2:f.size ≤ 60:=by omega
   have hfw:l.length ≤ 100 ∧ ∀ x ∈ l,x.1.f.size ≤ 60:=by
     unfold fewI fewB at h1
     split at h1
     · rename_i h
       rw [Bool.and_eq_true,decide_eq_true_eq,List.all_eq_true] at h
       exact ⟨h.1,fun x hx=>of_decide_eq_true (h.2 x hx)⟩
     · cases h1
   rw [h1] at CFW
   rw [if_pos h2] at CM
   clear hz hff h1
   have CP:=fun w' h=>y47h (zgd f gv w' h h2)
   have HFW:=y47h hfw.2
   have hn100:=hfw.1
   clear hfw
   obtain ⟨oa,cap,bd,od,rfl,hr⟩:=HDS.out
   have HR:=y47h hr
   have hcap:=hr.len
   have hmax:=hr.max
   unfold maxLen at hmax
   clear hr
   generalize hn:l.length = n at *
   have HN:=y47h hn
   have HN100:=y47h hn100
   clear hn
   cases hok:zcu r f
   · have CE:=fun w'=>y47h (zed (show 0 ≤ (1:Int) ∧ (1:Int) ≤ 10 by decide) w')
     have CN:=fun v w' h=>y47h (newC r f v w' h h2)
     have CRe:=fun v w' h=>y47h (newD r f v w' h h2)
     have e2:newE r f = 1:=by unfold newE;rw [hok];rfl
     have hE1:errI 1 = .iface 88 (.int .i64 1):=rfl
     rw [e2,hE1] at CN
     rw [e2] at CRe
     rw [hE1] at CE
     clear e2 h2 hok hE1
     generalize newT r f = N at *
     go_enter Tryz.func5,Tryz.ntmps5
     go_wp2_with (first | (go_at_call 7;refine (CU _).out.mono ?_;rintro e w1 ⟨rfl,hb⟩;replace OP:=y47h (OP.out.later hb);replace BEL:=y47h (BEL.out.trans (hb.mono BEL.out.size));clear hb) | (refine wpList_load_mid (by rfl) 25 _ (by rfl) w.heap.size 0 (by rfl) #[.int .i64 f.op,.string f.text,.int .i64 f.n,.float .f64 f.x,.float .f64 f.y,gv].toList _ OP.out.range Tryz.underlying25 (by rfl) (by kernel_rfl) ?_) | (go_at_call 9;refine (CM _ (HL.out.later BEL.out (Nat.le_refl _))).out.mono ?_;rintro e w2 ⟨rfl,hb⟩;replace OP:=y47h (OP.out.later hb);replace BEL:=y47h (BEL.out.trans (hb.mono BEL.out.size));clear hb) | (go_at_call 23;refine (CFW _ (HDS.out.later BEL.out)).out.mono ?_;rintro e w3 ⟨rfl,hb⟩;replace OP:=y47h (OP.out.later hb);replace BEL:=y47h (BEL.out.trans (hb.mono BEL.out.size));clear hb) | (go_at_call 14;refine (CP _ (HL.out.later BEL.out (Nat.le_refl _))).out.mono ?_;rintro e w6 ⟨v6,rfl,hl6,hb⟩;replace OP:=y47h (OP.out.later hb);replace O9:=y47h (O9.out.later hb);replace BEL:=y47h (BEL.out.trans (hb.mono BEL.out.size));have P6:=y47h (show LP w6 f v6 from hl6.mono (fun _ _ _=>rfl) fun _ h=>h.2);clear hl6 hb) | (go_at_call 14;refine (CP _ (HL.out.later BEL.out (Nat.le_refl _))).out.mono ?_;rintro e w4 ⟨v4,rfl,hl4,hb⟩;replace OP:=y47h (OP.out.later hb);replace BEL:=y47h (BEL.out.trans (hb.mono BEL.out.size));have P4:=y47h (show LP w4 f v4 from hl4.mono (fun _ _ _=>rfl) fun _ h=>h.2);clear hl4 hb) | (go_at_call 13;refine (CN _ _ P4.out).out.mono ?_;rintro e w5 ⟨f5,s5,o5,k5,rfl,hst,hb⟩;have h1:f5.oneCell' = true:=zar hst.lf;have h2:s5.oneCell' = true:=(by obtain ⟨_,_,_,_,e,_⟩:=hst.ls;rw [e];rfl);have h3:o5.oneCell' = true:=(by obtain ⟨_,_,_,_,e,_⟩:=hst.lo;rw [e];rfl);have h4:k5.oneCell' = true:=(by obtain ⟨_,_,e⟩:=hst.lk.val;rw [e];rfl);unfold Value.oneCell' at h1 h2 h3 h4;replace OP:=y47h (OP.out.later hb);replace BEL:=y47h (BEL.out.trans (hb.mono BEL.out.size));have O9:=y47h (Own.new w5 stZ.toArray 43);clear hst hb) | (refine wpList_store_mid (by rfl) 43 _ _ (by rfl) w5.heap.size 0 (stA N f5 s5 o5 k5) (by rfl) (by rfl) (O9.out.there (by rfl)) (by kernel_rfl) (by simp [Value.oneCell',h1,h2,h3,h4]) ?_;have HK:=y47h (And.intro (O9.out.sets (stA N f5 s5 o5 k5).toList (by rfl)) (zab (B:=w5.heap.size) (b:=w5.heap.size) (Nat.le_refl _) (stA N f5 s5 o5 k5).toList 0 ((Below.refl _ _).alloc (Nat.le_refl _) (.cells stZ.toArray 43))));revert HK;generalize World.setCells _ _ _ _ = W9;intro HK;have hb:=HK.out.2;replace O9:=y47h HK.out.1;replace OP:=y47h (OP.out.later hb);replace BEL:=y47h (BEL.out.trans (hb.mono BEL.out.size));clear HK hb) | (go_at_call 15;refine (CRe _ _ P6.out).out.mono ?_;rintro e w7 ⟨f7,s7,o7,k7,rfl,hst,hb⟩;have j1:f7.oneCell' = true:=zar hst.lf;have j2:s7.oneCell' = true:=(by obtain ⟨_,_,_,_,e,_⟩:=hst.ls;rw [e];rfl);have j3:o7.oneCell' = true:=(by obtain ⟨_,_,_,_,e,_⟩:=hst.lo;rw [e];rfl);have j4:k7.oneCell' = true:=(by obtain ⟨_,_,e⟩:=hst.lk.val;rw [e];rfl);unfold Value.oneCell' at j1 j2 j3 j4;replace BEL:=y47h (BEL.out.trans (hb.mono BEL.out.size));have O11:=y47h (Own.new w7 stZ.toArray 43);clear hst hb) | (refine wpList_store_mid (by rfl) 43 _ _ (by rfl) w7.heap.size 0 (stA N f7 s7 o7 k7) (by rfl) (by rfl) (O11.out.there (by rfl)) (by kernel_rfl) (by simp [Value.oneCell',j1,j2,j3,j4]) ?_;have HK:=y47h (And.intro (O11.out.sets (stA N f7 s7 o7 k7).toList (by rfl)) (zab (B:=w7.heap.size) (b:=w7.heap.size) (Nat.le_refl _) (stA N f7 s7 o7 k7).toList 0 ((Below.refl _ _).alloc (Nat.le_refl _) (.cells stZ.toArray 43))));revert HK;generalize World.setCells _ _ _ _ = W11;intro HK;have hb:=HK.out.2;replace O11:=y47h HK.out.1;replace BEL:=y47h (BEL.out.trans (hb.mono BEL.out.size));clear HK hb) | (go_at_call 17;refine (CE _).out.mono ?_;rintro e w9 ⟨rfl,rfl⟩) | fail)
     go_ret
     exact ⟨rfl,BEL.out⟩
   · skip
     have ho2:=zuk hok l
     have PG:=y47h ho2
     clear ho2
     have e1:newT r f = newS r f:=by unfold newT;rw [if_pos hok]
     have e2:newE r f = 0:=by unfold newE;rw [if_pos hok]
     have CN:=fun v w' h=>y47h (newC r f v w' h h2)
     have hE0:errI 0 = .nilIface:=rfl
     rw [e1,e2,hE0] at CN
     have CR:=fun v w' h=>y47h (z1p hok v w' h (Nat.le_trans h2 (by decide)))
     clear e1 e2 hE0 hok h2
     have hN:zc8 r f l 0 = newS r f:=rfl
     have FN0:=fun b c B w v (h:LPF w B f v) (hB:∀ j,B ≤ j → j < w.heap.size → j ≠ b ∧ j ≠ c)=>y47h (zvr (r:=r) h hB)
     generalize newS r f = N at *
     have HN0:=y47h hN
     clear hN
     go_enter Tryz.func5,Tryz.ntmps5
     go_upto_region 8 with (first | (go_at_call 7;refine (CU _).out.mono ?_;rintro e w1 ⟨rfl,hb⟩;replace OP:=y47h (OP.out.later hb);replace BEL:=y47h (BEL.out.trans (hb.mono BEL.out.size));clear hb) | (refine wpList_load_mid (by rfl) 25 _ (by rfl) w.heap.size 0 (by rfl) #[.int .i64 f.op,.string f.text,.int .i64 f.n,.float .f64 f.x,.float .f64 f.y,gv].toList _ OP.out.range Tryz.underlying25 (by rfl) (by kernel_rfl) ?_) | (go_at_call 9;refine (CM _ (HL.out.later BEL.out (Nat.le_refl _))).out.mono ?_;rintro e w2 ⟨rfl,hb⟩;replace OP:=y47h (OP.out.later hb);replace BEL:=y47h (BEL.out.trans (hb.mono BEL.out.size));clear hb) | (go_at_call 23;refine (CFW _ (HDS.out.later BEL.out)).out.mono ?_;rintro e w3 ⟨rfl,hb⟩;replace OP:=y47h (OP.out.later hb);replace BEL:=y47h (BEL.out.trans (hb.mono BEL.out.size));clear hb) | (go_at_call 14;refine (CP _ (HL.out.later BEL.out (Nat.le_refl _))).out.mono ?_;rintro e w6 ⟨v6,rfl,hl6,hb⟩;replace OP:=y47h (OP.out.later hb);replace O9:=y47h (O9.out.later hb);replace BEL:=y47h (BEL.out.trans (hb.mono BEL.out.size));replace BE5:=y47h (BE5.out.trans (hb.mono BE5.out.size));have P6:=y47h (show LPF w6 W9.heap.size f v6 from hl6);have j1:v6.oneCell' = true:=zar P6.out.lp;unfold Value.oneCell' at j1;have BE6:=y47h (Below.refl w6.heap.size w6);clear hl6 hb) | (go_at_call 14;refine (CP _ (HL.out.later BEL.out (Nat.le_refl _))).out.mono ?_;rintro e w4 ⟨v4,rfl,hl4,hb⟩;replace OP:=y47h (OP.out.later hb);replace BEL:=y47h (BEL.out.trans (hb.mono BEL.out.size));have P4:=y47h (show LP w4 f v4 from hl4.mono (fun _ _ _=>rfl) fun _ h=>h.2);clear hl4 hb) | (go_at_call 13;refine (CN _ _ P4.out).out.mono ?_;rintro e w5 ⟨f5,s5,o5,k5,rfl,hst,hb⟩;have h1:f5.oneCell' = true:=zar hst.lf;have h2:s5.oneCell' = true:=(by obtain ⟨_,_,_,_,e,_⟩:=hst.ls;rw [e];rfl);have h3:o5.oneCell' = true:=(by obtain ⟨_,_,_,_,e,_⟩:=hst.lo;rw [e];rfl);have h4:k5.oneCell' = true:=(by obtain ⟨_,_,e⟩:=hst.lk.val;rw [e];rfl);unfold Value.oneCell' at h1 h2 h3 h4;replace OP:=y47h (OP.out.later hb);replace BEL:=y47h (BEL.out.trans (hb.mono BEL.out.size));have T5:=y47h hst;have ZW5:=y47h (show w.heap.size ≤ w5.heap.size from BEL.out.size);have O9:=y47h (Own.new w5 stZ.toArray 43);have BE5:=y47h (Below.refl w5.heap.size w5);clear hst hb) | (refine wpList_store_mid (by rfl) 43 _ _ (by rfl) w5.heap.size 0 (stA N f5 s5 o5 k5) (by rfl) (by rfl) (O9.out.there (by rfl)) (by kernel_rfl) (by simp [Value.oneCell',h1,h2,h3,h4]) ?_;have HK:=y47h (And.intro (O9.out.sets (stA N f5 s5 o5 k5).toList (by rfl)) (zab (B:=w5.heap.size) (b:=w5.heap.size) (Nat.le_refl _) (stA N f5 s5 o5 k5).toList 0 ((Below.refl _ _).alloc (Nat.le_refl _) (.cells stZ.toArray 43))));revert HK;generalize World.setCells _ _ _ _ = W9;intro HK;have hb:=HK.out.2;replace O9:=y47h HK.out.1;replace OP:=y47h (OP.out.later hb);replace BEL:=y47h (BEL.out.trans (hb.mono BEL.out.size));replace BE5:=y47h (BE5.out.trans (hb.mono BE5.out.size));clear HK hb;have z9:=y47h O9.out.lt) | (go_at_call 15;refine (CR _ _ P6.out.lp).out.mono ?_;rintro e w7 ⟨rfl,hb⟩;replace O9:=y47h (O9.out.later hb);replace BEL:=y47h (BEL.out.trans (hb.mono BEL.out.size));replace BE5:=y47h (BE5.out.trans (hb.mono BE5.out.size));replace BE6:=y47h (BE6.out.trans (hb.mono BE6.out.size));have z6:=y47h BE6.out.size;have z5:=y47h O9.out.lt;have O11:=y47h (Own.new w7 stZ.toArray 43);clear hb) | (refine wpList_store_mid (by rfl) 43 _ _ (by rfl) w7.heap.size 0 (stA N v6 (.slice none 0 0) (.slice none 0 0) (.slice none 0 0)) (by rfl) (by rfl) (O11.out.there (by rfl)) (by kernel_rfl) (by simp [Value.oneCell',j1]) ?_;have HK:=y47h (And.intro (O11.out.sets (stA N v6 (.slice none 0 0) (.slice none 0 0) (.slice none 0 0)).toList (by rfl)) (zab (B:=w7.heap.size) (b:=w7.heap.size) (Nat.le_refl _) (stA N v6 (.slice none 0 0) (.slice none 0 0) (.slice none 0 0)).toList 0 ((Below.refl _ _).alloc (Nat.le_refl _) (.cells stZ.toArray 43))));revert HK;generalize World.setCells _ _ _ _ = W11;intro HK;have hb:=HK.out.2;replace O11:=y47h HK.out.1;replace O9:=y47h (O9.out.later hb);replace BEL:=y47h (BEL.out.trans (hb.mono BEL.out.size));replace BE5:=y47h (BE5.out.trans (hb.mono BE5.out.size));replace BE6:=y47h (BE6.out.trans (hb.mono BE6.out.size));clear HK hb) | fail)
     have Z57:=y47h (show w5.heap.size < w7.heap.size from z5.out)
     have Z0:=y47h (show w.heap.size ≤ w5.heap.size from ZW5.out)
     have hT:=zvs (b:=w5.heap.size) (c:=w7.heap.size) T5.out (Nat.le_refl _) (Nat.le_of_lt Z57.out) BE5.out
     have hV:=(FN0 w5.heap.size w7.heap.size _ _ _ P6.out (fun j h1 h2=>⟨by have:=z9.out;omega,by have:=z6.out;omega⟩)).out.later BE6.out
     have PL0:=y47h (PyW.mk O9.out O11.out hT hV BEL.out)
     clear hT hV T5 BE5 P6 BE6 P4 O9 O11 BEL z9 z6 z5 ZW5 OP FN0 CN CR h1 h2 h3 h4 j1
     go_wp2_with fail
     go_loopw [12] (fun iv wr=>z1b r f l n w5.heap.size w7.heap.size w iv wr) (fun iv _=>n - (intOf iv).toNat)
     case atStart=>exact ⟨0,Nat.zero_le _,rfl,y47h (by rw [HN0.out];exact ⟨_,_,_,_,_,_,_,_,PL0.out⟩)⟩
     case round =>
       clear PL0
       obtain ⟨k,hk,rfl,HP⟩:=hrel
       obtain ⟨f5,s5,o5,k5,f7,s7,o7,k7,hP⟩:=HP.out
       clear HP
       by_cases hlt:k < n
       · obtain ⟨x,hx⟩:∃ x,l[k]? = some x:=⟨_,List.getElem?_eq_getElem (by rw [HN.out];exact hlt)⟩
         obtain ⟨rfl,hb0⟩:=HR.out.at0 (by rw [HN.out];omega)
         have CC:=y47h (show ∀ j u,(deL x.1 x.2)[j]? = some u → wr.cell? ⟨bd,od + k * 12 + j,none⟩ = some u from fun j u hu=>(hP.bel.cell (p:=⟨bd,od + k * 12 + j,none⟩) hb0).trans (HR.out.cell k x hx j u hu))
         have HDX:=y47h (HR.out.ok x (List.mem_of_getElem? hx))
         have hsz:=HFW.out x (List.mem_of_getElem? hx)
         have ZBD:=y47h hb0
         obtain ⟨hG,hfl1,hfl2⟩:=PG.out k
         have hk100:40 + k ≤ 1000:=by have:=HN100.out;omega
         have hB:=zro hG hfl1 hfl2 hk100
         have HSTEP:=y47h (zl4 (r:=r) (f:=f) hx)
         have q0:(0:Int) ≤ (k:Int):=by omega
         have q1:(k:Int) < (n:Int):=by omega
         have q2:(k:Int) + 1 ≤ 9223372036854775807:=by have:=HN100.out;omega
         have O8:=y47h hP.o8
         have O10:=y47h hP.o10
         have FT:=y47h hP.t
         have FV:=y47h hP.v
         have BEL:=y47h hP.bel
         clear hP hx hb0 hfl1 hfl2 hk100
         generalize zc8 r f l k = s at *
         have hGU:=zqd hG x.1
         have CD:=fun a b c e w' (hx:StW w' s a b c e) (hd:DeW w' x.1 x.2)=>y47h (zte s a b c e x.1 x.2 w' hx hd hG hB hsz)
         have CW:=fun a b c e w' (hx:StW w' s a b c e) (hd:DeW w' x.1 x.2)=>y47h (zp7 s a b c e x.1 x.2 w' hx hd hG hB hsz)
         have CA:=fun af asv ao ak bf bs bo bk w' hA hB=>y47h (zy1 hGU (zwb hGU.f) ▸ zld (doS s x.1) (doS s x.1) af asv ao ak bf bs bo bk w' hA hB)
         have hUl:(doS s x.1).store.length ≤ 1000:=by have:=hGU.n;omega
         have CR1:=fun a b c e w' (h:StW w' (doS s x.1) a b c e)=>y47h (zfj (doS s x.1) a b c e w' h hUl)
         have CR2:=fun a b c e w' (h:StW w' (doS s x.1) a b c e)=>y47h (zws (doS s x.1) a b c e w' h hUl)
         have CS6:=fun va vb w' hA hB=>y47h (zmp zcx zfx (zd8 (doS s x.1)) (zd8 (doS s x.1)) va vb w' hA hB (zup hGU))
         clear hG hB hsz hGU hUl
         generalize zd8 (doS s x.1) = RU at *
         generalize doS s x.1 = U at *
         generalize doE s x.1 = E at *
         go_upto_region 12 with fail
         replace O8:=y47h O8.out.drew
         replace O10:=y47h O10.out.drew
         replace FT:=y47h (FT.out.later (Below.refl _ _).drew)
         replace FV:=y47h (FV.out.later (Below.refl _ _).drew)
         replace BEL:=y47h BEL.out.drew
         replace CC:=y47h (show ∀ j u,(deL x.1 x.2)[j]? = some u → (World.drew _).cell? ⟨bd,od + k * 12 + j,none⟩ = some u from CC.out)
         refine zcl (S:=(fun w'=>∀ o,w'.cell? ⟨w5.heap.size,o,none⟩ = (stA s f5 s5 o5 k5)[o]?)) (T:=(fun w'=>∀ j u,(deL x.1 x.2)[j]? = some u → w'.cell? ⟨bd,od + k * 12 + j,none⟩ = some u)) (D:=(fun j=>j == 9)) (by kernel_rfl) (by exact O8.out.cell) (by exact CC.out) (fun hHeld hStay=>?_)
         refine zct (i:=0) (v:=stV s f5 s5 o5 k5) rfl (by kernel_rfl) (by kernel_rfl) (by kernel_rfl) (by kernel_rfl) (fun _ _ _ h=>h) (Or.inl ⟨by rfl,fun w9 h9=>zbv 43 _ rfl w5.heap.size 0 (by rfl) (stA s f5 s5 o5 k5).toList _ (fun j v hv=>by rw [Nat.zero_add,h9 j];simpa using hv) Tryz.underlying43 (by rfl) (by kernel_rfl)⟩) hHeld ?_
         try simp only [Act.put,y47a,y47b,y47c,y47d,y47e,y47f]
         refine zah (i:=1) (v:=?_) rfl (by kernel_rfl) (by kernel_rfl) (by kernel_rfl) (fun _ _ _ h=>h) (Or.inl ⟨by rfl,?_⟩) hStay ?_
         rotate_left 1
         · (intro w hSw;(try dsimp only at hSw);go_simp;try with_reducible rfl)
         try simp only [Act.put,y47a,y47b,y47c,y47d,y47e,y47f]
         refine zah (i:=2) (v:=?_) rfl (by kernel_rfl) (by kernel_rfl) (by kernel_rfl) (fun _ _ _ h=>h) (Or.inl ⟨by rfl,?_⟩) hStay ?_
         rotate_left 1
         · (intro w hSw;(try dsimp only at hSw);go_simp;try with_reducible rfl)
         try simp only [Act.put,y47a,y47b,y47c,y47d,y47e,y47f]
         refine zah (i:=3) (v:=?_) rfl (by kernel_rfl) (by kernel_rfl) (by kernel_rfl) (fun _ _ _ h=>h) (Or.inl ⟨by rfl,?_⟩) hStay ?_
         rotate_left 1
         · (intro w hSw;(try dsimp only at hSw);go_simp;try with_reducible rfl)
         try simp only [Act.put,y47a,y47b,y47c,y47d,y47e,y47f]
         refine zah (i:=4) (v:=deV x.1 x.2) rfl (by kernel_rfl) (by kernel_rfl) (by kernel_rfl) (fun _ _ _ h=>h) (Or.inl ⟨by rfl,fun w9 h9=>zbv 57 _ rfl bd (od + k * 12) (by rfl) (deL x.1 x.2) _ (fun j v hv=>h9 j v hv) Tryz.underlying57 (by rfl) (by kernel_rfl)⟩) hStay ?_
         try simp only [Act.put,y47a,y47b,y47c,y47d,y47e,y47f]
         refine za3 (i:=5) (by kernel_rfl) rfl (fun K hK=>?_)
         try simp only [y47a,y47b,y47c]
         (go_simp;go_at_call 18;refine (CD _ _ _ _ _ FT.out.st (HDX.out.later BEL.out)).out.mono ?_;rintro e w6 ⟨g5,t5,p5,q5,rfl,hst,hb⟩;have FN:=y47h (Firm.told FT.out hst (zhh hb) O8.out.lt O10.out.lt);have hs6:=FN.out.st;have h1:g5.oneCell' = true:=zar hs6.lf;have h2:t5.oneCell' = true:=(by obtain ⟨_,_,_,_,e,_⟩:=hs6.ls;rw [e];rfl);have h3:p5.oneCell' = true:=(by obtain ⟨_,_,_,_,e,_⟩:=hs6.lo;rw [e];rfl);have h4:q5.oneCell' = true:=(by obtain ⟨_,_,e⟩:=hs6.lk.val;rw [e];rfl);unfold Value.oneCell' at h1 h2 h3 h4;replace CC:=y47h (show ∀ j u,(deL x.1 x.2)[j]? = some u → w6.cell? ⟨bd,od + k * 12 + j,none⟩ = some u from fun j u hu=>(hb.cell (p:=⟨bd,od + k * 12 + j,none⟩) (show bd < _ from by have:=ZBD.out;have:=O8.out.lt;have:=Z0.out;omega)).trans (CC.out j u hu));replace O8:=y47h (O8.out.later hb);replace O10:=y47h (O10.out.later hb);replace FV:=y47h (FV.out.later hb);replace BEL:=y47h (BEL.out.trans (hb.mono BEL.out.size));clear hb hst hs6 FT)
         try go_wp2_with fail
         refine hK.out _ _ (fun _=>by exact O8.out.cell) (by exact CC.out) (fun hHeld' hStay'=>?_)
         replace hHeld:=hHeld' (by rfl)
         replace hStay:=hStay'
         clear hK K hHeld' hStay'
         try simp only [Act.put,y47a,y47b,y47c,y47d,y47e,y47f]
         refine zah (i:=6) (v:=?_) rfl (by kernel_rfl) (by kernel_rfl) (by kernel_rfl) (fun _ _ _ h=>h) (Or.inl ⟨by rfl,?_⟩) hStay ?_
         rotate_left 1
         · (intro w hSw;(try dsimp only at hSw);go_simp;try with_reducible rfl)
         try simp only [Act.put,y47a,y47b,y47c,y47d,y47e,y47f]
         refine zah (i:=7) (v:=?_) rfl (by kernel_rfl) (by kernel_rfl) (by kernel_rfl) (fun _ _ _ h=>h) (Or.inl ⟨by rfl,?_⟩) hStay ?_
         rotate_left 1
         · (intro w hSw;(try dsimp only at hSw);go_simp;try with_reducible rfl)
         try simp only [Act.put,y47a,y47b,y47c,y47d,y47e,y47f]
         refine zah (i:=8) (v:=?_) rfl (by kernel_rfl) (by kernel_rfl) (by kernel_rfl) (fun _ _ _ h=>h) (Or.inl ⟨by rfl,?_⟩) hStay ?_
         rotate_left 1
         · (intro w hSw;(try dsimp only at hSw);go_simp;try with_reducible rfl)
         try simp only [Act.put,y47a,y47b,y47c,y47d,y47e,y47f]
         have HK:=y47h (And.intro (O8.out.sets (stA U g5 t5 p5 q5).toList (by rfl)) (And.intro (O10.out.setsFar (b:=w5.heap.size) (stA U g5 t5 p5 q5).toList 0 (by have:=Z57.out;omega)) (And.intro (FN.out.agr (zia (b:=w5.heap.size) (c:=w7.heap.size) (j:=w5.heap.size) (by simp) (stA U g5 t5 p5 q5).toList 0 (Agr.refl _ _ _))) (And.intro (FV.out.agr (zia (b:=w5.heap.size) (c:=w7.heap.size) (j:=w5.heap.size) (by simp) (stA U g5 t5 p5 q5).toList 0 (Agr.refl _ _ _))) (And.intro (zab (B:=w.heap.size) (b:=w5.heap.size) (by have:=Z0.out;have:=Z57.out;omega) (stA U g5 t5 p5 q5).toList 0 BEL.out) (fun j u (hu:(deL x.1 x.2)[j]? = some u)=>(World.cell?_setCells_out w5.heap.size (stA U g5 t5 p5 q5).toList 0 w6 ⟨bd,od + k * 12 + j,none⟩ (fun e _=>by have:=ZBD.out;have:=Z0.out;have:=Z57.out;simp only at e;omega)).trans (CC.out j u hu)))))))
         refine zfu (i:=9) (by kernel_rfl) rfl rfl 43 _ _ rfl w5.heap.size 0 (stA U g5 t5 p5 q5) (by rfl) (by rfl) (O8.out.there (by rfl)) (by kernel_rfl) (by simp [Value.oneCell',h1,h2,h3,h4]) (fun h=>by cases h) (by exact HK.out.2.2.2.2.2) (fun hStay'=>?_)
         clear O8 O10 FN FV BEL CC hStay hHeld hStay'
         revert HK
         generalize World.setCells _ _ _ _ = W12
         intro HK
         have O8:=y47h HK.out.1
         have O10:=y47h HK.out.2.1
         have FT:=y47h HK.out.2.2.1
         have FV:=y47h HK.out.2.2.2.1
         have BEL:=y47h HK.out.2.2.2.2.1
         have CC:=y47h HK.out.2.2.2.2.2
         have hStay:(fun w'=>∀ j u,(deL x.1 x.2)[j]? = some u → w'.cell? ⟨bd,od + k * 12 + j,none⟩ = some u) W12:=CC.out
         clear HK
         try simp only [Act.put,y47a,y47b,y47c,y47d,y47e,y47f]
         refine zah (i:=10) (v:=?_) rfl (by kernel_rfl) (by kernel_rfl) (by kernel_rfl) (fun _ _ _ h=>h) (Or.inl ⟨by rfl,?_⟩) hStay ?_
         rotate_left 1
         · (intro w hSw;(try dsimp only at hSw);go_simp;try with_reducible rfl)
         try simp only [Act.put,y47a,y47b,y47c,y47d,y47e,y47f]
         refine zcs (by kernel_rfl) ?_ _
         clear hStay h1 h2 h3 h4
         go_upto_region 13 with fail
         replace O10:=y47h O10.out.drew
         replace O8:=y47h O8.out.drew
         replace FV:=y47h (FV.out.later (Below.refl _ _).drew)
         replace FT:=y47h (FT.out.later (Below.refl _ _).drew)
         replace BEL:=y47h BEL.out.drew
         replace CC:=y47h (show ∀ j u,(deL x.1 x.2)[j]? = some u → (World.drew _).cell? ⟨bd,od + k * 12 + j,none⟩ = some u from CC.out)
         refine zcl (S:=(fun w'=>∀ o,w'.cell? ⟨w7.heap.size,o,none⟩ = (stA s f7 s7 o7 k7)[o]?)) (T:=(fun w'=>∀ j u,(deL x.1 x.2)[j]? = some u → w'.cell? ⟨bd,od + k * 12 + j,none⟩ = some u)) (D:=(fun j=>j == 9)) (by kernel_rfl) (by exact O10.out.cell) (by exact CC.out) (fun hHeld hStay=>?_)
         refine zct (i:=0) (v:=stV s f7 s7 o7 k7) rfl (by kernel_rfl) (by kernel_rfl) (by kernel_rfl) (by kernel_rfl) (fun _ _ _ h=>h) (Or.inl ⟨by rfl,fun w9 h9=>zbv 43 _ rfl w7.heap.size 0 (by rfl) (stA s f7 s7 o7 k7).toList _ (fun j v hv=>by rw [Nat.zero_add,h9 j];simpa using hv) Tryz.underlying43 (by rfl) (by kernel_rfl)⟩) hHeld ?_
         try simp only [Act.put,y47a,y47b,y47c,y47d,y47e,y47f]
         refine zah (i:=1) (v:=?_) rfl (by kernel_rfl) (by kernel_rfl) (by kernel_rfl) (fun _ _ _ h=>h) (Or.inl ⟨by rfl,?_⟩) hStay ?_
         rotate_left 1
         · (intro w hSw;(try dsimp only at hSw);go_simp;try with_reducible rfl)
         try simp only [Act.put,y47a,y47b,y47c,y47d,y47e,y47f]
         refine zah (i:=2) (v:=?_) rfl (by kernel_rfl) (by kernel_rfl) (by kernel_rfl) (fun _ _ _ h=>h) (Or.inl ⟨by rfl,?_⟩) hStay ?_
         rotate_left 1
         · (intro w hSw;(try dsimp only at hSw);go_simp;try with_reducible rfl)
         try simp only [Act.put,y47a,y47b,y47c,y47d,y47e,y47f]
         refine zah (i:=3) (v:=?_) rfl (by kernel_rfl) (by kernel_rfl) (by kernel_rfl) (fun _ _ _ h=>h) (Or.inl ⟨by rfl,?_⟩) hStay ?_
         rotate_left 1
         · (intro w hSw;(try dsimp only at hSw);go_simp;try with_reducible rfl)
         try simp only [Act.put,y47a,y47b,y47c,y47d,y47e,y47f]
         refine zah (i:=4) (v:=deV x.1 x.2) rfl (by kernel_rfl) (by kernel_rfl) (by kernel_rfl) (fun _ _ _ h=>h) (Or.inl ⟨by rfl,fun w9 h9=>zbv 57 _ rfl bd (od + k * 12) (by rfl) (deL x.1 x.2) _ (fun j v hv=>h9 j v hv) Tryz.underlying57 (by rfl) (by kernel_rfl)⟩) hStay ?_
         try simp only [Act.put,y47a,y47b,y47c,y47d,y47e,y47f]
         refine za3 (i:=5) (by kernel_rfl) rfl (fun K hK=>?_)
         try simp only [y47a,y47b,y47c]
         (go_simp;go_at_call 19;refine (CW _ _ _ _ _ FV.out.st (HDX.out.later BEL.out)).out.mono ?_;rintro e w6 ⟨g7,t7,p7,q7,rfl,hst,hb⟩;have FN:=y47h (Firm.told FV.out hst (zhh hb) O8.out.lt O10.out.lt);have hs6:=FN.out.st;have h1:g7.oneCell' = true:=zar hs6.lf;have h2:t7.oneCell' = true:=(by obtain ⟨_,_,_,_,e,_⟩:=hs6.ls;rw [e];rfl);have h3:p7.oneCell' = true:=(by obtain ⟨_,_,_,_,e,_⟩:=hs6.lo;rw [e];rfl);have h4:q7.oneCell' = true:=(by obtain ⟨_,_,e⟩:=hs6.lk.val;rw [e];rfl);unfold Value.oneCell' at h1 h2 h3 h4;replace CC:=y47h (show ∀ j u,(deL x.1 x.2)[j]? = some u → w6.cell? ⟨bd,od + k * 12 + j,none⟩ = some u from fun j u hu=>(hb.cell (p:=⟨bd,od + k * 12 + j,none⟩) (show bd < _ from by have:=ZBD.out;have:=O8.out.lt;have:=Z0.out;omega)).trans (CC.out j u hu));replace O8:=y47h (O8.out.later hb);replace O10:=y47h (O10.out.later hb);replace FT:=y47h (FT.out.later hb);replace BEL:=y47h (BEL.out.trans (hb.mono BEL.out.size));clear hb hst hs6 FV)
         try go_wp2_with fail
         refine hK.out _ _ (fun _=>by exact O10.out.cell) (by exact CC.out) (fun hHeld' hStay'=>?_)
         replace hHeld:=hHeld' (by rfl)
         replace hStay:=hStay'
         clear hK K hHeld' hStay'
         try simp only [Act.put,y47a,y47b,y47c,y47d,y47e,y47f]
         refine zah (i:=6) (v:=?_) rfl (by kernel_rfl) (by kernel_rfl) (by kernel_rfl) (fun _ _ _ h=>h) (Or.inl ⟨by rfl,?_⟩) hStay ?_
         rotate_left 1
         · (intro w hSw;(try dsimp only at hSw);go_simp;try with_reducible rfl)
         try simp only [Act.put,y47a,y47b,y47c,y47d,y47e,y47f]
         refine zah (i:=7) (v:=?_) rfl (by kernel_rfl) (by kernel_rfl) (by kernel_rfl) (fun _ _ _ h=>h) (Or.inl ⟨by rfl,?_⟩) hStay ?_
         rotate_left 1
         · (intro w hSw;(try dsimp only at hSw);go_simp;try with_reducible rfl)
         try simp only [Act.put,y47a,y47b,y47c,y47d,y47e,y47f]
         refine zah (i:=8) (v:=?_) rfl (by kernel_rfl) (by kernel_rfl) (by kernel_rfl) (fun _ _ _ h=>h) (Or.inl ⟨by rfl,?_⟩) hStay ?_
         rotate_left 1
         · (intro w hSw;(try dsimp only at hSw);go_simp;try with_reducible rfl)
         try simp only [Act.put,y47a,y47b,y47c,y47d,y47e,y47f]
         have HK:=y47h (And.intro (O10.out.sets (stA U g7 t7 p7 q7).toList (by rfl)) (And.intro (O8.out.setsFar (b:=w7.heap.size) (stA U g7 t7 p7 q7).toList 0 (by have:=Z57.out;omega)) (And.intro (FN.out.agr (zia (b:=w5.heap.size) (c:=w7.heap.size) (j:=w7.heap.size) (by simp) (stA U g7 t7 p7 q7).toList 0 (Agr.refl _ _ _))) (And.intro (FT.out.agr (zia (b:=w5.heap.size) (c:=w7.heap.size) (j:=w7.heap.size) (by simp) (stA U g7 t7 p7 q7).toList 0 (Agr.refl _ _ _))) (And.intro (zab (B:=w.heap.size) (b:=w7.heap.size) (by have:=Z0.out;have:=Z57.out;omega) (stA U g7 t7 p7 q7).toList 0 BEL.out) (fun j u (hu:(deL x.1 x.2)[j]? = some u)=>(World.cell?_setCells_out w7.heap.size (stA U g7 t7 p7 q7).toList 0 w6 ⟨bd,od + k * 12 + j,none⟩ (fun e _=>by have:=ZBD.out;have:=Z0.out;have:=Z57.out;simp only at e;omega)).trans (CC.out j u hu)))))))
         refine zfu (i:=9) (by kernel_rfl) rfl rfl 43 _ _ rfl w7.heap.size 0 (stA U g7 t7 p7 q7) (by rfl) (by rfl) (O10.out.there (by rfl)) (by kernel_rfl) (by simp [Value.oneCell',h1,h2,h3,h4]) (fun h=>by cases h) (by exact HK.out.2.2.2.2.2) (fun hStay'=>?_)
         clear O10 O8 FN FT BEL CC hStay hHeld hStay'
         revert HK
         generalize World.setCells _ _ _ _ = W13
         intro HK
         have O10:=y47h HK.out.1
         have O8:=y47h HK.out.2.1
         have FV:=y47h HK.out.2.2.1
         have FT:=y47h HK.out.2.2.2.1
         have BEL:=y47h HK.out.2.2.2.2.1
         have CC:=y47h HK.out.2.2.2.2.2
         have hStay:(fun w'=>∀ j u,(deL x.1 x.2)[j]? = some u → w'.cell? ⟨bd,od + k * 12 + j,none⟩ = some u) W13:=CC.out
         clear HK
         try simp only [Act.put,y47a,y47b,y47c,y47d,y47e,y47f]
         refine zah (i:=10) (v:=?_) rfl (by kernel_rfl) (by kernel_rfl) (by kernel_rfl) (fun _ _ _ h=>h) (Or.inl ⟨by rfl,?_⟩) hStay ?_
         rotate_left 1
         · (intro w hSw;(try dsimp only at hSw);go_simp;try with_reducible rfl)
         try simp only [Act.put,y47a,y47b,y47c,y47d,y47e,y47f]
         refine zcs (by kernel_rfl) ?_ _
         clear hStay h1 h2 h3 h4
         go_upto_region 15 with (first | (refine wpList_load_mid (by rfl) 43 _ (by rfl) w5.heap.size 0 (by rfl) (stA U g5 t5 p5 q5).toList _ O8.out.range Tryz.underlying43 (by rfl) (by kernel_rfl) ?_) | (refine wpList_load_mid (by rfl) 43 _ (by rfl) w7.heap.size 0 (by rfl) (stA U g7 t7 p7 q7).toList _ O10.out.range Tryz.underlying43 (by rfl) (by kernel_rfl) ?_) | (go_at_call 16;refine (CA _ _ _ _ _ _ _ _ _ FT.out.st FV.out.st).out.mono ?_;rintro e w8 ⟨rfl,hb⟩;replace O8:=y47h (O8.out.later hb);replace O10:=y47h (O10.out.later hb);replace FT:=y47h (FT.out.later hb);replace FV:=y47h (FV.out.later hb);replace BEL:=y47h (BEL.out.trans (hb.mono BEL.out.size));clear hb) | fail)
         replace FT:=y47h (FT.out.later (Below.refl _ _).drew)
         replace FV:=y47h (FV.out.later (Below.refl _ _).drew)
         replace O8:=y47h O8.out.drew
         replace O10:=y47h O10.out.drew
         replace BEL:=y47h BEL.out.drew
         refine wp_region_held_drew (S:=(fun w'=>(∀ o,w'.cell? ⟨w5.heap.size,o,none⟩ = (stA U g5 t5 p5 q5)[o]?) ∧ ∀ o,w'.cell? ⟨w7.heap.size,o,none⟩ = (stA U g7 t7 p7 q7)[o]?)) (by kernel_rfl) (by exact ⟨O8.out.cell,O10.out.cell⟩) (fun hHeld=>?_)
         refine wpAnyH_take (i:=0) (v:=?_) rfl (by kernel_rfl) (by kernel_rfl) (by kernel_rfl) (fun _ _ _ h=>h) (Or.inl ⟨by rfl,?_⟩) (by assumption) ?_
         rotate_left 1
         · (intro w hSw;(try dsimp only at hSw);go_simp;try with_reducible rfl)
         try simp only [Act.put,y47a,y47b,y47c,y47d,y47e,y47f]
         refine wpAnyH_take (i:=1) (v:=?_) rfl (by kernel_rfl) (by kernel_rfl) (by kernel_rfl) (fun _ _ _ h=>h) (Or.inl ⟨by rfl,?_⟩) (by assumption) ?_
         rotate_left 1
         · (intro w hSw;(try dsimp only at hSw);go_simp;try with_reducible rfl)
         try simp only [Act.put,y47a,y47b,y47c,y47d,y47e,y47f]
         refine wpAnyH_take (i:=2) (v:=?_) rfl (by kernel_rfl) (by kernel_rfl) (by kernel_rfl) (fun _ _ _ h=>h) (Or.inl ⟨by rfl,?_⟩) (by assumption) ?_
         rotate_left 1
         · (intro w hSw;(try dsimp only at hSw);go_simp;try with_reducible rfl)
         try simp only [Act.put,y47a,y47b,y47c,y47d,y47e,y47f]
         refine wpAnyH_take (i:=3) (v:=?_) rfl (by kernel_rfl) (by kernel_rfl) (by kernel_rfl) (fun _ _ _ h=>h) (Or.inl ⟨by rfl,?_⟩) (by assumption) ?_
         rotate_left 1
         · (intro w hSw;(try dsimp only at hSw);go_simp;try with_reducible rfl)
         try simp only [Act.put,y47a,y47b,y47c,y47d,y47e,y47f]
         refine wpAnyH_take (i:=4) (v:=?_) rfl (by kernel_rfl) (by kernel_rfl) (by kernel_rfl) (fun _ _ _ h=>h) (Or.inl ⟨by rfl,?_⟩) (by assumption) ?_
         rotate_left 1
         · (intro w hSw;(try dsimp only at hSw);go_simp;try with_reducible rfl)
         try simp only [Act.put,y47a,y47b,y47c,y47d,y47e,y47f]
         refine wpAnyH_take (i:=5) (v:=.bool false) rfl (by kernel_rfl) (by kernel_rfl) (by kernel_rfl) (fun _ _ _ h=>h) (Or.inl ⟨by rfl,?_⟩) (by assumption) ?_
         · (intro w hSw;(try dsimp only at hSw);go_simp;try simp)
         try simp only [Act.put,y47a,y47b,y47c,y47d,y47e,y47f]
         refine wpAnyH_take (i:=6) (v:=?_) rfl (by kernel_rfl) (by kernel_rfl) (by kernel_rfl) (fun _ _ _ h=>h) (Or.inl ⟨by rfl,?_⟩) (by assumption) ?_
         rotate_left 1
         · (intro w hSw;(try dsimp only at hSw);go_simp;try with_reducible rfl)
         try simp only [Act.put,y47a,y47b,y47c,y47d,y47e,y47f]
         refine wpAnyH_take (i:=7) (v:=?_) rfl (by kernel_rfl) (by kernel_rfl) (by kernel_rfl) (fun _ _ _ h=>h) (Or.inl ⟨by rfl,?_⟩) (by assumption) ?_
         rotate_left 1
         · (intro w hSw;(try dsimp only at hSw);go_simp;try with_reducible rfl)
         try simp only [Act.put,y47a,y47b,y47c,y47d,y47e,y47f]
         refine wpAnyH_take (i:=8) (v:=stV U g5 t5 p5 q5) rfl (by kernel_rfl) (by kernel_rfl) (by kernel_rfl) (fun _ _ _ h=>h) (Or.inl ⟨by rfl,fun w9 h5=>zbv 43 _ rfl w5.heap.size 0 (by rfl) (stA U g5 t5 p5 q5).toList _ (fun j v hv=>by rw [Nat.zero_add,h5.1 j];simpa using hv) Tryz.underlying43 (by rfl) (by kernel_rfl)⟩) (by assumption) ?_
         try simp only [Act.put,y47a,y47b,y47c,y47d,y47e,y47f]
         refine wpAnyH_take (i:=10) (v:=stV U g7 t7 p7 q7) rfl (by kernel_rfl) (by kernel_rfl) (by kernel_rfl) (fun _ _ _ h=>h) (Or.inl ⟨by rfl,fun w9 h5=>zbv 43 _ rfl w7.heap.size 0 (by rfl) (stA U g7 t7 p7 q7).toList _ (fun j v hv=>by rw [Nat.zero_add,h5.2 j];simpa using hv) Tryz.underlying43 (by rfl) (by kernel_rfl)⟩) (by assumption) ?_
         try simp only [Act.put,y47a,y47b,y47c,y47d,y47e,y47f]
         refine wpAnyH_ready (rs:=[9]) (by kernel_rfl) (by simp) ?_
         refine AllReadyH.cons rfl (fun K hK=>?_) AllReadyH.nil
         try simp only [y47a,y47b,y47c]
         (go_simp;go_at_call 21;refine (CR1 _ _ _ _ _ FT.out.st).out.mono ?_;rintro e wa ⟨va,rfl,hr,hb⟩;replace FT:=y47h (FT.out.later hb);replace FV:=y47h (FV.out.later hb);replace O8:=y47h (O8.out.later hb);replace O10:=y47h (O10.out.later hb);replace BEL:=y47h (BEL.out.trans (hb.mono BEL.out.size));have RA:=y47h hr;clear hr hb)
         try go_wp2_with fail
         refine hK.out _ _ (by exact ⟨O8.out.cell,O10.out.cell⟩) (fun hHeld=>?_)
         clear hK K
         try simp only [Act.put,y47a,y47b,y47c,y47d,y47e,y47f]
         refine wpAnyH_ready (rs:=[11]) (by kernel_rfl) (by simp) ?_
         refine AllReadyH.cons rfl (fun K hK=>?_) AllReadyH.nil
         try simp only [y47a,y47b,y47c]
         (go_simp;go_at_call 22;refine (CR2 _ _ _ _ _ FV.out.st).out.mono ?_;rintro e wb ⟨vb,rfl,hr,hb⟩;replace FT:=y47h (FT.out.later hb);replace FV:=y47h (FV.out.later hb);replace O8:=y47h (O8.out.later hb);replace O10:=y47h (O10.out.later hb);replace RA:=y47h (RA.out.later hb);replace BEL:=y47h (BEL.out.trans (hb.mono BEL.out.size));have RB:=y47h hr;clear hr hb)
         try go_wp2_with fail
         refine hK.out _ _ (by exact ⟨O8.out.cell,O10.out.cell⟩) (fun hHeld=>?_)
         clear hK K
         try simp only [Act.put,y47a,y47b,y47c,y47d,y47e,y47f]
         refine wpAnyH_ready (rs:=[12]) (by kernel_rfl) (by simp) ?_
         refine AllReadyH.cons rfl (fun K hK=>?_) AllReadyH.nil
         try simp only [y47a,y47b,y47c]
         (go_simp;go_at_call 20;refine (CS6 _ _ _ RA.out RB.out).out.mono ?_;rintro e wc ⟨rfl,hb⟩;replace FT:=y47h (FT.out.later hb);replace FV:=y47h (FV.out.later hb);replace O8:=y47h (O8.out.later hb);replace O10:=y47h (O10.out.later hb);replace BEL:=y47h (BEL.out.trans (hb.mono BEL.out.size));clear hb)
         try go_wp2_with fail
         refine hK.out _ _ (by exact ⟨O8.out.cell,O10.out.cell⟩) (fun hHeld=>?_)
         clear hK K
         try simp only [Act.put,y47a,y47b,y47c,y47d,y47e,y47f]
         refine wpAnyH_take (i:=13) (v:=?_) rfl (by kernel_rfl) (by kernel_rfl) (by kernel_rfl) (fun _ _ _ h=>h) (Or.inl ⟨by rfl,?_⟩) (by assumption) ?_
         rotate_left 1
         · (intro w hSw;(try dsimp only at hSw);go_simp;try with_reducible rfl)
         try simp only [Act.put,y47a,y47b,y47c,y47d,y47e,y47f]
         refine wpAnyH_take (i:=14) (v:=?_) rfl (by kernel_rfl) (by kernel_rfl) (by kernel_rfl) (fun _ _ _ h=>h) (Or.inl ⟨by rfl,?_⟩) (by assumption) ?_
         rotate_left 1
         · (intro w hSw;(try dsimp only at hSw);go_simp;try with_reducible rfl)
         try simp only [Act.put,y47a,y47b,y47c,y47d,y47e,y47f]
         refine wpAnyH_done (by kernel_rfl) ?_ _
         clear hHeld
         go_wp2_with fail
         go_roundw
         case rel=>exact ⟨k + 1,by omega,by go_num,y47h (by rw [HSTEP.out];exact ⟨g5,t5,p5,q5,g7,t7,p7,q7,O8.out,O10.out,FT.out,FV.out,BEL.out⟩)⟩
         case measure=>simp [intOf];omega
       · go_wp2_with fail
         go_ret
         exact ⟨rfl,hP.bel⟩
end Go.Proofs.YthnllikalobmeaaGreat
