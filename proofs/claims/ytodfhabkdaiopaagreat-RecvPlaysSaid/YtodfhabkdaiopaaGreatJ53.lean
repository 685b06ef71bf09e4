/- Joined: RecvPlays. -/
import Derived.Test.YtodfhabkdaiopaaGreatJ50
import Derived.Test.YtodfhabkdaiopaaGreatJ36
import Derived.Test.YtodfhabkdaiopaaGreatJ47
import Derived.Test.YtodfhabkdaiopaaGreatJ51
import Derived.Test.YtodfhabkdaiopaaGreatJ49
import Derived.Test.YtodfhabkdaiopaaGreatJ31
import Derived.Test.YtodfhabkdaiopaaGreatJ26
import Derived.Test.YtodfhabkdaiopaaGreatJ52
import Derived.Test.YtodfhabkdaiopaaGreatJ42
import Derived.Test.YtodfhabkdaiopaaGreatJ04
namespace Go.Proofs.YtodfhabkdaiopaaGreat
set_option linter.unusedVariables false
set_option linter.unusedSimpArgs false
set_option maxRecDepth 100000
set_option maxHeartbeats 8000000
open Go.RowKit
theorem y53h {p:Prop} (h:p):Go.RowKit.Hid p:=Lib.hid h
structure RyW (b c:Nat) (U:St) (w0:World) (f5 s5 o5 k5 f7 s7 o7 k7:Value) (wr:World):Prop where
 o8:Own wr b (stA U f5 s5 o5 k5) 40
 o10:Own wr c (stA U f7 s7 o7 k7) 40
 t:Sure (fun j=>j=b ∨ j=c) wr (fun w=>StW w U f5 s5 o5 k5)
 v:Sure (fun j=>j=b ∨ j=c) wr (fun w=>StW w U f7 s7 o7 k7)
 bel:Below w0.heap.size w0 wr
def z1d (r:Int) (f:Pr) (l:List Rd) (n b c:Nat) (w:World) (iv:Value) (wr:World):Prop :=
 ∃ k:Nat,k≤n∧iv=.int .i64 k∧Hid (∃ f5 s5 o5 k5 f7 s7 o7 k7,RyW b c (zd1 r f l k) w f5 s5 o5 k5 f7 s7 o7 k7 wr)
abbrev rdZ:List Value:=[.int .i64 0,.int .i64 0,.string ⟨#[]⟩,.int .i64 0,.int .i64 0,.int .i64 0,.string ⟨#[]⟩,.int .i64 0,.float .f64 0,.float .f64 0,.bool false,.int .i64 0,.int .i64 0,.int .i64 0,.int .i64 0,.int .i64 0,.string ⟨#[]⟩,.string ⟨#[]⟩,.int .i64 0,.float .f64 0,.float .f64 0,.int .i64 0,.string ⟨#[]⟩,.int .i64 0,.float .f64 0,.float .f64 0,.slice none 0 0]
theorem zv9 (z:Itm) (w:World):Calls Tryz.prog 15 #[rV z] w fun e w'=>e=.returned (iV z)∧Below w.heap.size w w' :=
 zrv z.id z.r z.c z.st z.kd z.num z.x z.y z.d w
theorem z1q {r:Int} {f:Pr} (hok:zdd r f=true) (v:Value) (w:World) (h:LP w f v) (hf:f.size≤1000) :
   Calls Tryz.prog 13 #[.int .i64 r,prV f v] w fun e w'=>e=.returned (.tuple #[stV (newS r f) v (.slice none 0 0) (.slice none 0 0) (.slice none 0 0),.int .i64 0])∧Below w.heap.size w w' :=
 (zig r f v w h hf).mono fun _ _ ⟨hc,hb⟩=>by
   rcases hc with ⟨_,he⟩ | ⟨ho,_⟩
   · exact ⟨he,hb⟩
   · rw [hok] at ho;cases ho
theorem zk7 (r:Int) (f:Pr) (gv:Value) (l:List Rd) (lv:Value) (w:World) (hL:LT w f gv) (hD:RdW w l lv) :
   Calls Tryz.prog 3 #[.int .i64 r,.agg #[.int .i64 f.op,.string f.text,.int .i64 f.n,.float .f64 f.x,.float .f64 f.y,gv],lv] w fun e w'=>e=.returned (.bool true)∧Below w.heap.size w w':=by
 have OP:=y53h (Own.new w #[.int .i64 f.op,.string f.text,.int .i64 f.n,.float .f64 f.x,.float .f64 f.y,gv] 25)
 have BEL:=y53h ((Below.refl w.heap.size w).alloc (Nat.le_refl _) (.cells #[.int .i64 f.op,.string f.text,.int .i64 f.n,.float .f64 f.x,.float .f64 f.y,gv] 25))
 have HL:=y53h hL
 obtain ⟨hRG,hok0⟩:=hD
 obtain ⟨oa,cap,bd,od,rfl,hr⟩:=hRG
 have HR:=y53h hr
 have HOK:=y53h hok0
 have hcap:=hr.len
 have hmax:=hr.max
 unfold maxLen at hmax
 clear hL hr hok0
 have CU:=fun w'=>y53h (zsp w')
 have CM:=fun w' h=>y53h (zji f gv w' h)
 generalize hn:l.length=n at *
 have HN:=y53h hn
 clear hn
 by_cases h2:f.size≤60
 · rw [if_pos h2] at CM
   by_cases hn1:(100:Int) < (n:Int)
   · clear h2
     go_enter Tryz.func3,Tryz.ntmps3
     go_wp2_with (first | (go_at_call 9;refine (CU _).out.mono ?_;rintro e w1 ⟨rfl,hb⟩;replace OP:=y53h (OP.out.later hb);replace BEL:=y53h (BEL.out.trans (hb.mono BEL.out.size));clear hb) | (refine wpList_load_mid (by rfl) 25 _ (by rfl) w.heap.size 0 (by rfl) #[.int .i64 f.op,.string f.text,.int .i64 f.n,.float .f64 f.x,.float .f64 f.y,gv].toList _ OP.out.range Tryz.underlying25 (by rfl) (by kernel_rfl) ?_) | (go_at_call 10;refine (CM _ (HL.out.later BEL.out (Nat.le_refl _))).out.mono ?_;rintro e w2 ⟨rfl,hb⟩;replace OP:=y53h (OP.out.later hb);replace BEL:=y53h (BEL.out.trans (hb.mono BEL.out.size));clear hb) | fail)
     go_ret
     exact ⟨rfl,BEL.out⟩
   have hn100:n≤100:=by omega
   have hn2:(n:Int)≤100:=by omega
   have HN100:=y53h hn100
   clear hn100
   have CP:=fun w' h=>y53h (zgt f gv w' h h2)
   cases hok:zdd r f
   · have CE:=fun w'=>y53h (zdg (show 0≤(1:Int)∧(1:Int)≤10 by decide) w')
     have CN:=fun v w' h=>y53h (newC r f v w' h h2)
     have CRe:=fun v w' h=>y53h (newD r f v w' h h2)
     have e2:newE r f=1:=by unfold newE;rw [hok];rfl
     have hE1:errI 1=.iface 124 (.int .i64 1):=rfl
     rw [e2,hE1] at CN
     rw [e2] at CRe
     rw [hE1] at CE
     clear e2 h2 hok hE1
     generalize newT r f=N at *
     go_enter Tryz.func3,Tryz.ntmps3
     go_wp2_with (first | (go_at_call 9;refine (CU _).out.mono ?_;rintro e w1 ⟨rfl,hb⟩;replace OP:=y53h (OP.out.later hb);replace BEL:=y53h (BEL.out.trans (hb.mono BEL.out.size));clear hb) | (refine wpList_load_mid (by rfl) 25 _ (by rfl) w.heap.size 0 (by rfl) #[.int .i64 f.op,.string f.text,.int .i64 f.n,.float .f64 f.x,.float .f64 f.y,gv].toList _ OP.out.range Tryz.underlying25 (by rfl) (by kernel_rfl) ?_) | (go_at_call 10;refine (CM _ (HL.out.later BEL.out (Nat.le_refl _))).out.mono ?_;rintro e w2 ⟨rfl,hb⟩;replace OP:=y53h (OP.out.later hb);replace BEL:=y53h (BEL.out.trans (hb.mono BEL.out.size));clear hb) | (go_at_call 12;refine (CP _ (HL.out.later BEL.out (Nat.le_refl _))).out.mono ?_;rintro e w6 ⟨v6,rfl,hl6,hb⟩;replace OP:=y53h (OP.out.later hb);replace O9:=y53h (O9.out.later hb);replace BEL:=y53h (BEL.out.trans (hb.mono BEL.out.size));have P6:=y53h (show LP w6 f v6 from hl6.mono (fun _ _ _=>rfl) fun _ h=>h.2);clear hl6 hb) | (go_at_call 12;refine (CP _ (HL.out.later BEL.out (Nat.le_refl _))).out.mono ?_;rintro e w4 ⟨v4,rfl,hl4,hb⟩;replace OP:=y53h (OP.out.later hb);replace BEL:=y53h (BEL.out.trans (hb.mono BEL.out.size));have P4:=y53h (show LP w4 f v4 from hl4.mono (fun _ _ _=>rfl) fun _ h=>h.2);clear hl4 hb) | (go_at_call 11;refine (CN _ _ P4.out).out.mono ?_;rintro e w5 ⟨f5,s5,o5,k5,rfl,hst,hb⟩;have h1:f5.oneCell'=true:=zas hst.lf;have h2:s5.oneCell'=true:=(by obtain ⟨_,_,_,_,e,_⟩:=hst.ls;rw [e];rfl);have h3:o5.oneCell'=true:=(by obtain ⟨_,_,_,_,e,_⟩:=hst.lo;rw [e];rfl);have h4:k5.oneCell'=true:=(by obtain ⟨_,_,e⟩:=hst.lk.val;rw [e];rfl);unfold Value.oneCell' at h1 h2 h3 h4;replace OP:=y53h (OP.out.later hb);replace BEL:=y53h (BEL.out.trans (hb.mono BEL.out.size));have O9:=y53h (Own.new w5 stZ.toArray 40);clear hst hb) | (refine wpList_store_mid (by rfl) 40 _ _ (by rfl) w5.heap.size 0 (stA N f5 s5 o5 k5) (by rfl) (by rfl) (O9.out.there (by rfl)) (by kernel_rfl) (by simp [Value.oneCell',h1,h2,h3,h4]) ?_;have HK:=y53h (And.intro (O9.out.sets (stA N f5 s5 o5 k5).toList (by rfl)) (zaa (B:=w5.heap.size) (b:=w5.heap.size) (Nat.le_refl _) (stA N f5 s5 o5 k5).toList 0 ((Below.refl _ _).alloc (Nat.le_refl _) (.cells stZ.toArray 40))));revert HK;generalize World.setCells _ _ _ _=W9;intro HK;have hb:=HK.out.2;replace O9:=y53h HK.out.1;replace OP:=y53h (OP.out.later hb);replace BEL:=y53h (BEL.out.trans (hb.mono BEL.out.size));clear HK hb) | (go_at_call 13;refine (CRe _ _ P6.out).out.mono ?_;rintro e w7 ⟨f7,s7,o7,k7,rfl,hst,hb⟩;have j1:f7.oneCell'=true:=zas hst.lf;have j2:s7.oneCell'=true:=(by obtain ⟨_,_,_,_,e,_⟩:=hst.ls;rw [e];rfl);have j3:o7.oneCell'=true:=(by obtain ⟨_,_,_,_,e,_⟩:=hst.lo;rw [e];rfl);have j4:k7.oneCell'=true:=(by obtain ⟨_,_,e⟩:=hst.lk.val;rw [e];rfl);unfold Value.oneCell' at j1 j2 j3 j4;replace BEL:=y53h (BEL.out.trans (hb.mono BEL.out.size));have O11:=y53h (Own.new w7 stZ.toArray 40);clear hst hb) | (refine wpList_store_mid (by rfl) 40 _ _ (by rfl) w7.heap.size 0 (stA N f7 s7 o7 k7) (by rfl) (by rfl) (O11.out.there (by rfl)) (by kernel_rfl) (by simp [Value.oneCell',j1,j2,j3,j4]) ?_;have HK:=y53h (And.intro (O11.out.sets (stA N f7 s7 o7 k7).toList (by rfl)) (zaa (B:=w7.heap.size) (b:=w7.heap.size) (Nat.le_refl _) (stA N f7 s7 o7 k7).toList 0 ((Below.refl _ _).alloc (Nat.le_refl _) (.cells stZ.toArray 40))));revert HK;generalize World.setCells _ _ _ _=W11;intro HK;have hb:=HK.out.2;replace O11:=y53h HK.out.1;replace BEL:=y53h (BEL.out.trans (hb.mono BEL.out.size));clear HK hb) | (go_at_call 14;refine (CE _).out.mono ?_;rintro e w9 ⟨rfl,rfl⟩) | fail)
     go_ret
     exact ⟨rfl,BEL.out⟩
   · skip
     have ho2:=zr7 hok l
     have PG:=y53h ho2
     clear ho2
     have e1:newT r f=newS r f:=by unfold newT;rw [if_pos hok]
     have e2:newE r f=0:=by unfold newE;rw [if_pos hok]
     have CN:=fun v w' h=>y53h (newC r f v w' h h2)
     have hE0:errI 0=.nilIface:=rfl
     rw [e1,e2,hE0] at CN
     have CR:=fun v w' h=>y53h (z1q hok v w' h (Nat.le_trans h2 (by decide)))
     clear e1 e2 hE0 hok h2
     have hN:zd1 r f l 0=newS r f:=rfl
     have FN0:=fun (T:Nat→Prop) B w v (h:LPF w B f v) (hT:∀ j,T j→j < B ∨ w.heap.size≤j)=>y53h (zxk (r:=r) h hT)
     generalize newS r f=N at *
     have HN0:=y53h hN
     clear hN
     go_enter Tryz.func3,Tryz.ntmps3
     go_upto_region 8 with (first | (go_at_call 9;refine (CU _).out.mono ?_;rintro e w1 ⟨rfl,hb⟩;replace OP:=y53h (OP.out.later hb);replace BEL:=y53h (BEL.out.trans (hb.mono BEL.out.size));clear hb) | (refine wpList_load_mid (by rfl) 25 _ (by rfl) w.heap.size 0 (by rfl) #[.int .i64 f.op,.string f.text,.int .i64 f.n,.float .f64 f.x,.float .f64 f.y,gv].toList _ OP.out.range Tryz.underlying25 (by rfl) (by kernel_rfl) ?_) | (go_at_call 10;refine (CM _ (HL.out.later BEL.out (Nat.le_refl _))).out.mono ?_;rintro e w2 ⟨rfl,hb⟩;replace OP:=y53h (OP.out.later hb);replace BEL:=y53h (BEL.out.trans (hb.mono BEL.out.size));clear hb) | (go_at_call 12;refine (CP _ (HL.out.later BEL.out (Nat.le_refl _))).out.mono ?_;rintro e w6 ⟨v6,rfl,hl6,hb⟩;replace OP:=y53h (OP.out.later hb);replace O9:=y53h (O9.out.later hb);replace BEL:=y53h (BEL.out.trans (hb.mono BEL.out.size));replace BE5:=y53h (BE5.out.trans (hb.mono BE5.out.size));have P6:=y53h (show LPF w6 W9.heap.size f v6 from hl6);have j1:v6.oneCell'=true:=zas P6.out.lp;unfold Value.oneCell' at j1;have BE6:=y53h (Below.refl w6.heap.size w6);clear hl6 hb) | (go_at_call 12;refine (CP _ (HL.out.later BEL.out (Nat.le_refl _))).out.mono ?_;rintro e w4 ⟨v4,rfl,hl4,hb⟩;replace OP:=y53h (OP.out.later hb);replace BEL:=y53h (BEL.out.trans (hb.mono BEL.out.size));have P4:=y53h (show LP w4 f v4 from hl4.mono (fun _ _ _=>rfl) fun _ h=>h.2);clear hl4 hb) | (go_at_call 11;refine (CN _ _ P4.out).out.mono ?_;rintro e w5 ⟨f5,s5,o5,k5,rfl,hst,hb⟩;have h1:f5.oneCell'=true:=zas hst.lf;have h2:s5.oneCell'=true:=(by obtain ⟨_,_,_,_,e,_⟩:=hst.ls;rw [e];rfl);have h3:o5.oneCell'=true:=(by obtain ⟨_,_,_,_,e,_⟩:=hst.lo;rw [e];rfl);have h4:k5.oneCell'=true:=(by obtain ⟨_,_,e⟩:=hst.lk.val;rw [e];rfl);unfold Value.oneCell' at h1 h2 h3 h4;replace OP:=y53h (OP.out.later hb);replace BEL:=y53h (BEL.out.trans (hb.mono BEL.out.size));have T5:=y53h hst;have ZW5:=y53h (show w.heap.size≤w5.heap.size from BEL.out.size);have O9:=y53h (Own.new w5 stZ.toArray 40);have BE5:=y53h (Below.refl w5.heap.size w5);clear hst hb) | (refine wpList_store_mid (by rfl) 40 _ _ (by rfl) w5.heap.size 0 (stA N f5 s5 o5 k5) (by rfl) (by rfl) (O9.out.there (by rfl)) (by kernel_rfl) (by simp [Value.oneCell',h1,h2,h3,h4]) ?_;have HK:=y53h (And.intro (O9.out.sets (stA N f5 s5 o5 k5).toList (by rfl)) (zaa (B:=w5.heap.size) (b:=w5.heap.size) (Nat.le_refl _) (stA N f5 s5 o5 k5).toList 0 ((Below.refl _ _).alloc (Nat.le_refl _) (.cells stZ.toArray 40))));revert HK;generalize World.setCells _ _ _ _=W9;intro HK;have hb:=HK.out.2;replace O9:=y53h HK.out.1;replace OP:=y53h (OP.out.later hb);replace BEL:=y53h (BEL.out.trans (hb.mono BEL.out.size));replace BE5:=y53h (BE5.out.trans (hb.mono BE5.out.size));clear HK hb;have z9:=y53h O9.out.lt) | (go_at_call 13;refine (CR _ _ P6.out.lp).out.mono ?_;rintro e w7 ⟨rfl,hb⟩;replace O9:=y53h (O9.out.later hb);replace BEL:=y53h (BEL.out.trans (hb.mono BEL.out.size));replace BE5:=y53h (BE5.out.trans (hb.mono BE5.out.size));replace BE6:=y53h (BE6.out.trans (hb.mono BE6.out.size));have z6:=y53h BE6.out.size;have z5:=y53h O9.out.lt;have O11:=y53h (Own.new w7 stZ.toArray 40);clear hb) | (refine wpList_store_mid (by rfl) 40 _ _ (by rfl) w7.heap.size 0 (stA N v6 (.slice none 0 0) (.slice none 0 0) (.slice none 0 0)) (by rfl) (by rfl) (O11.out.there (by rfl)) (by kernel_rfl) (by simp [Value.oneCell',j1]) ?_;have HK:=y53h (And.intro (O11.out.sets (stA N v6 (.slice none 0 0) (.slice none 0 0) (.slice none 0 0)).toList (by rfl)) (zaa (B:=w7.heap.size) (b:=w7.heap.size) (Nat.le_refl _) (stA N v6 (.slice none 0 0) (.slice none 0 0) (.slice none 0 0)).toList 0 ((Below.refl _ _).alloc (Nat.le_refl _) (.cells stZ.toArray 40))));revert HK;generalize World.setCells _ _ _ _=W11;intro HK;have hb:=HK.out.2;replace O11:=y53h HK.out.1;replace O9:=y53h (O9.out.later hb);replace BEL:=y53h (BEL.out.trans (hb.mono BEL.out.size));replace BE5:=y53h (BE5.out.trans (hb.mono BE5.out.size));replace BE6:=y53h (BE6.out.trans (hb.mono BE6.out.size));clear HK hb) | fail)
     have Z57:=y53h (show w5.heap.size < w7.heap.size from z5.out)
     have Z0:=y53h (show w.heap.size≤w5.heap.size from ZW5.out)
     have hT:=(zxl (T:=(fun j=>j=w5.heap.size ∨ j=w7.heap.size)) T5.out (fun j hj=>by have:=Z57.out;omega)).later BE5.out
     have hV:=(FN0 (fun j=>j=w5.heap.size ∨ j=w7.heap.size) _ _ _ P6.out (fun j hj=>by have:=z9.out;have:=z6.out;omega)).out.later BE6.out
     have PL0:=y53h (RyW.mk O9.out O11.out hT hV BEL.out)
     clear hT hV T5 BE5 P6 BE6 P4 O9 O11 BEL z9 z6 z5 ZW5 OP FN0 CN CR h1 h2 h3 h4 j1
     go_wp2_with fail
     go_loopw [12] (fun iv wr=>z1d r f l n w5.heap.size w7.heap.size w iv wr) (fun iv _=>n - (intOf iv).toNat)
     case atStart=>exact ⟨0,Nat.zero_le _,rfl,y53h (by rw [HN0.out];exact ⟨_,_,_,_,_,_,_,_,PL0.out⟩)⟩
     case round =>
       clear PL0
       obtain ⟨k,hk,rfl,HP⟩:=hrel
       obtain ⟨f5,s5,o5,k5,f7,s7,o7,k7,hP⟩:=HP.out
       clear HP
       by_cases hlt:k < n
       · obtain ⟨x,hx⟩:∃ x,l[k]?=some x:=⟨_,List.getElem?_eq_getElem (by rw [HN.out];exact hlt)⟩
         obtain ⟨rfl,hb0⟩:=HR.out.at0 (by rw [HN.out];omega)
         have CC:=y53h (show ∀ j u,(rdC x)[j]?=some u→wr.cell? ⟨bd,od + k * 27 + j,none⟩=some u from fun j u hu=>(hP.bel.cell (p:=⟨bd,od + k * 27 + j,none⟩) hb0).trans (HR.out.cell k x hx j u hu))
         have HDX:=y53h (HOK.out x (List.mem_of_getElem? hx))
         obtain ⟨hG,hfl1,hfl2⟩:=PG.out k
         have hk100:40 + k≤1000:=by have:=HN100.out;omega
         have hB:=zpx hG hfl1 hfl2 hk100
         have HSTEP:=y53h (zk5 (r:=r) (f:=f) hx)
         have q0:(0:Int)≤(k:Int):=by omega
         have q1:(k:Int) < (n:Int):=by omega
         have q2:(k:Int) + 1≤9223372036854775807:=by have:=HN100.out;omega
         have O8:=y53h hP.o8
         have O10:=y53h hP.o10
         have FT:=y53h hP.t
         have FV:=y53h hP.v
         have BEL:=y53h hP.bel
         have hfv:x.fv.oneCell'=true:=zas HDX.out.d.lf
         unfold Value.oneCell' at hfv
         have Z13:=y53h (show w7.heap.size < wr.heap.size from O10.out.lt)
         have CSM:=fun w' h=>y53h (zji x.d.f x.fv w' h)
         have CIT:=fun w'=>y53h (zv9 x.z w')
         clear hP hx hb0 hfl1 hfl2 hk100
         generalize zd1 r f l k=s at *
         go_upto_region 12 with (first | (refine wpList_load_mid (by rfl) 56 _ (by rfl) bd (od + k * 27) (by rfl) [.int .i64 x.what,.int .i64 x.n,.string x.z.id,.int .i64 x.z.r,.int .i64 x.z.c,.int .i64 x.z.st,.string x.z.kd,.int .i64 x.z.num,.float .f64 x.z.x,.float .f64 x.z.y,.bool x.z.d,.int .i64 x.r,.int .i64 x.c,.int .i64 x.r2,.int .i64 x.q2,.int .i64 x.d.what,.string x.d.id,.string x.d.kd,.int .i64 x.d.num,.float .f64 x.d.x,.float .f64 x.d.y,.int .i64 x.d.f.op,.string x.d.f.text,.int .i64 x.d.f.n,.float .f64 x.d.f.x,.float .f64 x.d.f.y,x.fv] _ (fun j v hv=>CC.out j v hv) Tryz.underlying56 (by rfl) (by kernel_rfl) ?_;have O13:=y53h (Own.new wr rdZ.toArray 56)) | (refine wpList_store_mid (by rfl) 56 _ _ (by rfl) wr.heap.size 0 #[.int .i64 x.what,.int .i64 x.n,.string x.z.id,.int .i64 x.z.r,.int .i64 x.z.c,.int .i64 x.z.st,.string x.z.kd,.int .i64 x.z.num,.float .f64 x.z.x,.float .f64 x.z.y,.bool x.z.d,.int .i64 x.r,.int .i64 x.c,.int .i64 x.r2,.int .i64 x.q2,.int .i64 x.d.what,.string x.d.id,.string x.d.kd,.int .i64 x.d.num,.float .f64 x.d.x,.float .f64 x.d.y,.int .i64 x.d.f.op,.string x.d.f.text,.int .i64 x.d.f.n,.float .f64 x.d.f.x,.float .f64 x.d.f.y,x.fv] (by rfl) (by rfl) (O13.out.there (by rfl)) (by kernel_rfl) (by simp [Value.oneCell',hfv]) ?_;have HK:=y53h (And.intro (O13.out.sets [.int .i64 x.what,.int .i64 x.n,.string x.z.id,.int .i64 x.z.r,.int .i64 x.z.c,.int .i64 x.z.st,.string x.z.kd,.int .i64 x.z.num,.float .f64 x.z.x,.float .f64 x.z.y,.bool x.z.d,.int .i64 x.r,.int .i64 x.c,.int .i64 x.r2,.int .i64 x.q2,.int .i64 x.d.what,.string x.d.id,.string x.d.kd,.int .i64 x.d.num,.float .f64 x.d.x,.float .f64 x.d.y,.int .i64 x.d.f.op,.string x.d.f.text,.int .i64 x.d.f.n,.float .f64 x.d.f.x,.float .f64 x.d.f.y,x.fv] (by rfl)) (zaa (B:=wr.heap.size) (b:=wr.heap.size) (Nat.le_refl _) [.int .i64 x.what,.int .i64 x.n,.string x.z.id,.int .i64 x.z.r,.int .i64 x.z.c,.int .i64 x.z.st,.string x.z.kd,.int .i64 x.z.num,.float .f64 x.z.x,.float .f64 x.z.y,.bool x.z.d,.int .i64 x.r,.int .i64 x.c,.int .i64 x.r2,.int .i64 x.q2,.int .i64 x.d.what,.string x.d.id,.string x.d.kd,.int .i64 x.d.num,.float .f64 x.d.x,.float .f64 x.d.y,.int .i64 x.d.f.op,.string x.d.f.text,.int .i64 x.d.f.n,.float .f64 x.d.f.x,.float .f64 x.d.f.y,x.fv] 0 ((Below.refl _ _).alloc (Nat.le_refl _) (.cells rdZ.toArray 56))));revert HK;generalize World.setCells _ _ _ _=W13;intro HK;have hb:=HK.out.2;replace O13:=y53h HK.out.1;replace O8:=y53h (O8.out.later hb);replace O10:=y53h (O10.out.later hb);replace FT:=y53h (FT.out.later hb);replace FV:=y53h (FV.out.later hb);replace BEL:=y53h (BEL.out.trans (Below.mono hb BEL.out.size));clear HK hb) | fail)
         clear hfv CC
         by_cases hsz:x.d.f.size≤60
         · rw [if_pos hsz] at CSM
           go_upto_region 14 with (first
               | (refine wpList_load_mid (by rfl) 25 _ (by rfl) wr.heap.size 21 (by rfl) [.int .i64 x.d.f.op,.string x.d.f.text,.int .i64 x.d.f.n,.float .f64 x.d.f.x,.float .f64 x.d.f.y,x.fv] _ (by exact O13.out.part 21 _ (by rfl)) Tryz.underlying25 (by rfl) (by kernel_rfl) ?_)
               | (go_at_call 10;refine (CSM _ (HDX.out.d.lf.later BEL.out (Nat.le_refl _))).out.mono ?_;rintro e wy ⟨rfl,hb⟩;replace O8:=y53h (O8.out.later hb);replace O10:=y53h (O10.out.later hb);replace O13:=y53h (O13.out.later hb);replace FT:=y53h (FT.out.later hb);replace FV:=y53h (FV.out.later hb);replace BEL:=y53h (BEL.out.trans (Below.mono hb BEL.out.size));clear hb)
               | fail)
           clear CSM
           go_upto_region 15 with (first
               | (refine wpList_load_mid (by rfl) 50 _ (by rfl) wr.heap.size 2 (by rfl) (rc x.z) _ (by exact O13.out.part 2 _ (by rfl)) Tryz.underlying50 (by rfl) (by kernel_rfl) ?_)
               | (go_at_call 15;refine (CIT _).out.mono ?_;rintro e w14 ⟨rfl,hb⟩;replace O8:=y53h (O8.out.later hb);replace O10:=y53h (O10.out.later hb);replace O13:=y53h (O13.out.later hb);replace FT:=y53h (FT.out.later hb);replace FV:=y53h (FV.out.later hb);replace BEL:=y53h (BEL.out.trans (Below.mono hb BEL.out.size));clear hb;have Z14:=y53h (show wr.heap.size < w14.heap.size from O13.out.lt))
               | fail)
           have O14:=y53h (Own.new w14 (iA x.z) 58)
           have hb9:Below w14.heap.size w14 (w14.alloc (.cells (iA x.z) 58)):=(Below.refl _ _).alloc (Nat.le_refl _) _
           replace O8:=y53h (O8.out.later hb9)
           replace O10:=y53h (O10.out.later hb9)
           replace O13:=y53h (O13.out.later hb9)
           replace FT:=y53h (FT.out.later hb9)
           replace FV:=y53h (FV.out.later hb9)
           replace BEL:=y53h (BEL.out.trans (Below.mono hb9 BEL.out.size))
           clear hb9
           revert BEL
           revert O8
           revert O10
           revert O13
           revert FT
           revert FV
           revert O14
           generalize World.alloc _ _=VO14
           intro O14 FV FT O13 O10 O8 BEL
           try simp only [Act.put]
           have CPK:=fun w2=>y53h (zg6 x.what w2)
           have hpk:=ziz x.what
           have l13:=O13.out.cell
           have z13:=O13.out.lt
           clear CIT
           rcases (show za4 x.what=0 ∨ za4 x.what=1 ∨ za4 x.what=2 ∨ za4 x.what=3 by omega) with hp | hp | hp | hp
           · replace HSTEP:=y53h (HSTEP.out.trans (zlj (.inl hp)))
             rw [hp] at CPK
             have hGU:=zif hG (x:=x.z)
             have CRI:=fun a b c d w2 (h:StW w2 s a b c d)=>y53h (zer s a b c d x.z w2 h hG hB HDX.out.z)
             have CRD:=fun a b c d w2 (h:StW w2 s a b c d)=>y53h (zhq s a b c d x.z w2 h hB HDX.out.z)
             have CE:=fun w2=>y53h (zdg (zq6 (s:=s) (x:=x.z)) w2)
             have CA:=fun af asv ao ak bf bs bo bk w2 hA hB=>y53h (zi0 hGU (zg0 hGU.f) ▸ zdq (zax s x.z) (zax s x.z) af asv ao ak bf bs bo bk w2 hA hB)
             clear hGU hG hB
             generalize zax s x.z=U at *
             generalize za8 s x.z=E at *
             go_upto_region 21 with (first
                 | (go_at_call 16;refine (CPK _).out.mono ?_;rintro e wy ⟨rfl,rfl⟩)
                 | fail)
             clear l13 z13 O13 CPK
             go_upto_region 22 with (first
                 | (refine wpList_load_mid (by rfl) 40 _ (by rfl) w5.heap.size 0 (by rfl) (stA s f5 s5 o5 k5).toList _ (by exact O8.out.part 0 _ (by rfl)) Tryz.underlying40 (by rfl) (by kernel_rfl) ?_)
                 | (refine wpList_load_mid (by rfl) 58 _ (by rfl) w14.heap.size 0 (by rfl) (ic x.z) _ (by exact O14.out.part 0 _ (by rfl)) Tryz.underlying58 (by rfl) (by kernel_rfl) ?_)
                 | (go_at_call 17;refine (CRI _ _ _ _ _ FT.out.now).out.mono ?_;rintro e w6 ⟨f6,s6,o6,k6,rfl,hst,hb⟩;replace hst:=hst.mono (T':=(fun j=>j=w5.heap.size ∨ j=w7.heap.size)) (fun j hj=>by rcases hj with rfl | rfl;exact O8.out.lt;exact O10.out.lt);obtain ⟨⟨oa6,ca6,rfl⟩,⟨ob6,cb6,rfl⟩,⟨oc6,cc6,rfl⟩,⟨od6,cd6,rfl⟩⟩:=hst.now.shape;replace O8:=y53h (O8.out.later hb);replace O10:=y53h (O10.out.later hb);replace O14:=y53h (O14.out.later hb);replace FT:=y53h (FT.out.later hb);replace FV:=y53h (FV.out.later hb);replace BEL:=y53h (BEL.out.trans (Below.mono hb BEL.out.size));have X6:=y53h (hst);have O6:=y53h (Own.new w6 stZ.toArray 40);clear hst hb)
                 | (refine wpList_store_mid (by rfl) 40 _ _ (by rfl) w6.heap.size 0 (stA U (.slice oa6 U.f.kids.length ca6) (.slice ob6 U.store.length cb6) (.slice oc6 U.out.length cc6) (.slice od6 U.k.l.length cd6)) (by rfl) (by rfl) (O6.out.there (by rfl)) (by kernel_rfl) (by simp [Value.oneCell']) ?_;have HK:=y53h (And.intro (O6.out.sets (stA U (.slice oa6 U.f.kids.length ca6) (.slice ob6 U.store.length cb6) (.slice oc6 U.out.length cc6) (.slice od6 U.k.l.length cd6)).toList (by rfl)) (zaa (B:=w6.heap.size) (b:=w6.heap.size) (Nat.le_refl _) (stA U (.slice oa6 U.f.kids.length ca6) (.slice ob6 U.store.length cb6) (.slice oc6 U.out.length cc6) (.slice od6 U.k.l.length cd6)).toList 0 ((Below.refl _ _).alloc (Nat.le_refl _) (.cells stZ.toArray 40))));revert HK;generalize World.setCells _ _ _ _=W6;intro HK;have hb:=HK.out.2;replace O6:=y53h HK.out.1;replace O8:=y53h (O8.out.later hb);replace O10:=y53h (O10.out.later hb);replace O14:=y53h (O14.out.later hb);replace FT:=y53h (FT.out.later hb);replace FV:=y53h (FV.out.later hb);replace BEL:=y53h (BEL.out.trans (Below.mono hb BEL.out.size));replace X6:=y53h (X6.out.later hb);clear HK hb)
                 | fail)
             go_upto_region 23 with (first
                 | (refine wpList_load_mid (by rfl) 40 _ (by rfl) w6.heap.size 0 (by rfl) (stA U (.slice oa6 U.f.kids.length ca6) (.slice ob6 U.store.length cb6) (.slice oc6 U.out.length cc6) (.slice od6 U.k.l.length cd6)).toList _ (by exact O6.out.part 0 _ (by rfl)) Tryz.underlying40 (by rfl) (by kernel_rfl) ?_)
                 | (refine wpList_store_mid (by rfl) 40 _ _ (by rfl) w5.heap.size 0 (stA U (.slice oa6 U.f.kids.length ca6) (.slice ob6 U.store.length cb6) (.slice oc6 U.out.length cc6) (.slice od6 U.k.l.length cd6)) (by rfl) (by rfl) (O8.out.there (by rfl)) (by kernel_rfl) (by simp [Value.oneCell']) ?_;have HK:=y53h (And.intro (O8.out.sets (stA U (.slice oa6 U.f.kids.length ca6) (.slice ob6 U.store.length cb6) (.slice oc6 U.out.length cc6) (.slice od6 U.k.l.length cd6)).toList (by rfl)) (And.intro (O8.out.butSets (stA U (.slice oa6 U.f.kids.length ca6) (.slice ob6 U.store.length cb6) (.slice oc6 U.out.length cc6) (.slice od6 U.k.l.length cd6)).toList) (zaa (B:=w.heap.size) (b:=w5.heap.size) (by have:=Z0.out;have:=Z57.out;have:=Z13.out;have:=Z14.out;omega) (stA U (.slice oa6 U.f.kids.length ca6) (.slice ob6 U.store.length cb6) (.slice oc6 U.out.length cc6) (.slice od6 U.k.l.length cd6)).toList 0 BEL.out)));revert HK;generalize World.setCells _ _ _ _=W22;intro HK;replace O8:=y53h HK.out.1;replace O10:=y53h (O10.out.but HK.out.2.1 (show ¬ (w7.heap.size=w5.heap.size) from by have:=Z57.out;have:=Z13.out;have:=Z14.out;omega));replace O14:=y53h (O14.out.but HK.out.2.1 (show ¬ (w14.heap.size=w5.heap.size) from by have:=Z57.out;have:=Z13.out;have:=Z14.out;omega));have FT9:=y53h (X6.out.but HK.out.2.1 (fun j hj=>Or.inl hj));clear X6;clear FT;have FV9:=y53h (FV.out.but HK.out.2.1 (fun j hj=>Or.inl hj));clear FV;replace BEL:=y53h HK.out.2.2;clear HK;have FT:=FT9;clear FT9;have FV:=FV9;clear FV9)
                 | fail)
             go_upto_region 24 with (first
                 | (go_at_call 14;refine (CE _).out.mono ?_;rintro e w9 ⟨rfl,rfl⟩)
                 | fail)
             clear O6 CRI CE
             go_upto_region 33 with (first
                 | (refine wpList_load_mid (by rfl) 40 _ (by rfl) w7.heap.size 0 (by rfl) (stA s f7 s7 o7 k7).toList _ (by exact O10.out.part 0 _ (by rfl)) Tryz.underlying40 (by rfl) (by kernel_rfl) ?_)
                 | (refine wpList_load_mid (by rfl) 58 _ (by rfl) w14.heap.size 0 (by rfl) (ic x.z) _ (by exact O14.out.part 0 _ (by rfl)) Tryz.underlying58 (by rfl) (by kernel_rfl) ?_)
                 | (go_at_call 18;refine (CRD _ _ _ _ _ FV.out.now).out.mono ?_;rintro e w7b ⟨f6,s6,o6,k6,rfl,hst,hb⟩;rw [show numI E=Value.int .i64 E from rfl];have hs:=zf5 FV.out hst hb (fun j hj=>by rcases hj with rfl | rfl;exact O8.out.lt;exact O10.out.lt);clear hst;obtain ⟨⟨oa7,ca7,rfl⟩,⟨ob7,cb7,rfl⟩,⟨oc7,cc7,rfl⟩,⟨od7,cd7,rfl⟩⟩:=hs.now.shape;replace O8:=y53h (O8.out.later hb);replace O10:=y53h (O10.out.later hb);replace O14:=y53h (O14.out.later hb);replace FT:=y53h (FT.out.later hb);replace BEL:=y53h (BEL.out.trans (Below.mono hb BEL.out.size));have X7:=y53h hs;clear hs hb)
                 | (refine wpList_store_mid (by rfl) 40 _ _ (by rfl) w7.heap.size 0 (stA U (.slice oa7 U.f.kids.length ca7) (.slice ob7 U.store.length cb7) (.slice oc7 U.out.length cc7) (.slice od7 U.k.l.length cd7)) (by rfl) (by rfl) (O10.out.there (by rfl)) (by kernel_rfl) (by simp [Value.oneCell']) ?_;have HK:=y53h (And.intro (O10.out.sets (stA U (.slice oa7 U.f.kids.length ca7) (.slice ob7 U.store.length cb7) (.slice oc7 U.out.length cc7) (.slice od7 U.k.l.length cd7)).toList (by rfl)) (And.intro (O10.out.butSets (stA U (.slice oa7 U.f.kids.length ca7) (.slice ob7 U.store.length cb7) (.slice oc7 U.out.length cc7) (.slice od7 U.k.l.length cd7)).toList) (zaa (B:=w.heap.size) (b:=w7.heap.size) (by have:=Z0.out;have:=Z57.out;have:=Z13.out;have:=Z14.out;omega) (stA U (.slice oa7 U.f.kids.length ca7) (.slice ob7 U.store.length cb7) (.slice oc7 U.out.length cc7) (.slice od7 U.k.l.length cd7)).toList 0 BEL.out)));revert HK;generalize World.setCells _ _ _ _=W24;intro HK;replace O10:=y53h HK.out.1;replace O8:=y53h (O8.out.but HK.out.2.1 (show ¬ (w5.heap.size=w7.heap.size) from by have:=Z57.out;have:=Z13.out;have:=Z14.out;omega));have FV9:=y53h (X7.out.but HK.out.2.1 (fun j hj=>Or.inr hj));clear X7;clear FV;have FT9:=y53h (FT.out.but HK.out.2.1 (fun j hj=>Or.inr hj));clear FT;replace BEL:=y53h HK.out.2.2;clear HK;have FV:=FV9;clear FV9;have FT:=FT9;clear FT9)
                 | fail)
             clear O14 CRD
             go_upto_region 34 with (first
                 | (refine wpList_load_mid (by rfl) 40 _ (by rfl) w5.heap.size 0 (by rfl) (stA U (.slice oa6 U.f.kids.length ca6) (.slice ob6 U.store.length cb6) (.slice oc6 U.out.length cc6) (.slice od6 U.k.l.length cd6)).toList _ (by exact O8.out.part 0 _ (by rfl)) Tryz.underlying40 (by rfl) (by kernel_rfl) ?_)
                 | (refine wpList_load_mid (by rfl) 40 _ (by rfl) w7.heap.size 0 (by rfl) (stA U (.slice oa7 U.f.kids.length ca7) (.slice ob7 U.store.length cb7) (.slice oc7 U.out.length cc7) (.slice od7 U.k.l.length cd7)).toList _ (by exact O10.out.part 0 _ (by rfl)) Tryz.underlying40 (by rfl) (by kernel_rfl) ?_)
                 | (go_at_call 24;refine (CA _ _ _ _ _ _ _ _ _ FT.out.now FV.out.now).out.mono ?_;rintro e wy ⟨rfl,hb⟩;replace O8:=y53h (O8.out.later hb);replace O10:=y53h (O10.out.later hb);replace FT:=y53h (FT.out.later hb);replace FV:=y53h (FV.out.later hb);replace BEL:=y53h (BEL.out.trans (Below.mono hb BEL.out.size));clear hb)
                 | fail)
             go_wp2_with fail
             go_roundw
             case rel=>exact ⟨k + 1,by omega,by go_num,y53h (by rw [HSTEP.out];exact ⟨_,_,_,_,_,_,_,_,⟨O8.out,O10.out,FT.out,FV.out,BEL.out⟩⟩)⟩
             case measure=>simp [intOf];omega
           · replace HSTEP:=y53h (HSTEP.out.trans (zlj (.inr hp)))
             rw [hp] at CPK
             have hGU:=zif hG (x:=x.z)
             have CRI:=fun a b c d w2 (h:StW w2 s a b c d)=>y53h (zer s a b c d x.z w2 h hG hB HDX.out.z)
             have CRD:=fun a b c d w2 (h:StW w2 s a b c d)=>y53h (zhq s a b c d x.z w2 h hB HDX.out.z)
             have CE:=fun w2=>y53h (zdg (zq6 (s:=s) (x:=x.z)) w2)
             have CA:=fun af asv ao ak bf bs bo bk w2 hA hB=>y53h (zi0 hGU (zg0 hGU.f) ▸ zdq (zax s x.z) (zax s x.z) af asv ao ak bf bs bo bk w2 hA hB)
             clear hGU hG hB
             generalize zax s x.z=U at *
             generalize za8 s x.z=E at *
             go_upto_region 21 with (first
                 | (go_at_call 16;refine (CPK _).out.mono ?_;rintro e wy ⟨rfl,rfl⟩)
                 | fail)
             clear l13 z13 O13 CPK
             go_upto_region 22 with (first
                 | (refine wpList_load_mid (by rfl) 40 _ (by rfl) w5.heap.size 0 (by rfl) (stA s f5 s5 o5 k5).toList _ (by exact O8.out.part 0 _ (by rfl)) Tryz.underlying40 (by rfl) (by kernel_rfl) ?_)
                 | (refine wpList_load_mid (by rfl) 58 _ (by rfl) w14.heap.size 0 (by rfl) (ic x.z) _ (by exact O14.out.part 0 _ (by rfl)) Tryz.underlying58 (by rfl) (by kernel_rfl) ?_)
                 | (go_at_call 17;refine (CRI _ _ _ _ _ FT.out.now).out.mono ?_;rintro e w6 ⟨f6,s6,o6,k6,rfl,hst,hb⟩;replace hst:=hst.mono (T':=(fun j=>j=w5.heap.size ∨ j=w7.heap.size)) (fun j hj=>by rcases hj with rfl | rfl;exact O8.out.lt;exact O10.out.lt);obtain ⟨⟨oa6,ca6,rfl⟩,⟨ob6,cb6,rfl⟩,⟨oc6,cc6,rfl⟩,⟨od6,cd6,rfl⟩⟩:=hst.now.shape;replace O8:=y53h (O8.out.later hb);replace O10:=y53h (O10.out.later hb);replace O14:=y53h (O14.out.later hb);replace FT:=y53h (FT.out.later hb);replace FV:=y53h (FV.out.later hb);replace BEL:=y53h (BEL.out.trans (Below.mono hb BEL.out.size));have X6:=y53h (hst);have O6:=y53h (Own.new w6 stZ.toArray 40);clear hst hb)
                 | (refine wpList_store_mid (by rfl) 40 _ _ (by rfl) w6.heap.size 0 (stA U (.slice oa6 U.f.kids.length ca6) (.slice ob6 U.store.length cb6) (.slice oc6 U.out.length cc6) (.slice od6 U.k.l.length cd6)) (by rfl) (by rfl) (O6.out.there (by rfl)) (by kernel_rfl) (by simp [Value.oneCell']) ?_;have HK:=y53h (And.intro (O6.out.sets (stA U (.slice oa6 U.f.kids.length ca6) (.slice ob6 U.store.length cb6) (.slice oc6 U.out.length cc6) (.slice od6 U.k.l.length cd6)).toList (by rfl)) (zaa (B:=w6.heap.size) (b:=w6.heap.size) (Nat.le_refl _) (stA U (.slice oa6 U.f.kids.length ca6) (.slice ob6 U.store.length cb6) (.slice oc6 U.out.length cc6) (.slice od6 U.k.l.length cd6)).toList 0 ((Below.refl _ _).alloc (Nat.le_refl _) (.cells stZ.toArray 40))));revert HK;generalize World.setCells _ _ _ _=W6;intro HK;have hb:=HK.out.2;replace O6:=y53h HK.out.1;replace O8:=y53h (O8.out.later hb);replace O10:=y53h (O10.out.later hb);replace O14:=y53h (O14.out.later hb);replace FT:=y53h (FT.out.later hb);replace FV:=y53h (FV.out.later hb);replace BEL:=y53h (BEL.out.trans (Below.mono hb BEL.out.size));replace X6:=y53h (X6.out.later hb);clear HK hb)
                 | fail)
             go_upto_region 23 with (first
                 | (refine wpList_load_mid (by rfl) 40 _ (by rfl) w6.heap.size 0 (by rfl) (stA U (.slice oa6 U.f.kids.length ca6) (.slice ob6 U.store.length cb6) (.slice oc6 U.out.length cc6) (.slice od6 U.k.l.length cd6)).toList _ (by exact O6.out.part 0 _ (by rfl)) Tryz.underlying40 (by rfl) (by kernel_rfl) ?_)
                 | (refine wpList_store_mid (by rfl) 40 _ _ (by rfl) w5.heap.size 0 (stA U (.slice oa6 U.f.kids.length ca6) (.slice ob6 U.store.length cb6) (.slice oc6 U.out.length cc6) (.slice od6 U.k.l.length cd6)) (by rfl) (by rfl) (O8.out.there (by rfl)) (by kernel_rfl) (by simp [Value.oneCell']) ?_;have HK:=y53h (And.intro (O8.out.sets (stA U (.slice oa6 U.f.kids.length ca6) (.slice ob6 U.store.length cb6) (.slice oc6 U.out.length cc6) (.slice od6 U.k.l.length cd6)).toList (by rfl)) (And.intro (O8.out.butSets (stA U (.slice oa6 U.f.kids.length ca6) (.slice ob6 U.store.length cb6) (.slice oc6 U.out.length cc6) (.slice od6 U.k.l.length cd6)).toList) (zaa (B:=w.heap.size) (b:=w5.heap.size) (by have:=Z0.out;have:=Z57.out;have:=Z13.out;have:=Z14.out;omega) (stA U (.slice oa6 U.f.kids.length ca6) (.slice ob6 U.store.length cb6) (.slice oc6 U.out.length cc6) (.slice od6 U.k.l.length cd6)).toList 0 BEL.out)));revert HK;generalize World.setCells _ _ _ _=W22;intro HK;replace O8:=y53h HK.out.1;replace O10:=y53h (O10.out.but HK.out.2.1 (show ¬ (w7.heap.size=w5.heap.size) from by have:=Z57.out;have:=Z13.out;have:=Z14.out;omega));replace O14:=y53h (O14.out.but HK.out.2.1 (show ¬ (w14.heap.size=w5.heap.size) from by have:=Z57.out;have:=Z13.out;have:=Z14.out;omega));have FT9:=y53h (X6.out.but HK.out.2.1 (fun j hj=>Or.inl hj));clear X6;clear FT;have FV9:=y53h (FV.out.but HK.out.2.1 (fun j hj=>Or.inl hj));clear FV;replace BEL:=y53h HK.out.2.2;clear HK;have FT:=FT9;clear FT9;have FV:=FV9;clear FV9)
                 | fail)
             go_upto_region 24 with (first
                 | (go_at_call 14;refine (CE _).out.mono ?_;rintro e w9 ⟨rfl,rfl⟩)
                 | fail)
             clear O6 CRI CE
             go_upto_region 33 with (first
                 | (refine wpList_load_mid (by rfl) 40 _ (by rfl) w7.heap.size 0 (by rfl) (stA s f7 s7 o7 k7).toList _ (by exact O10.out.part 0 _ (by rfl)) Tryz.underlying40 (by rfl) (by kernel_rfl) ?_)
                 | (refine wpList_load_mid (by rfl) 58 _ (by rfl) w14.heap.size 0 (by rfl) (ic x.z) _ (by exact O14.out.part 0 _ (by rfl)) Tryz.underlying58 (by rfl) (by kernel_rfl) ?_)
                 | (go_at_call 18;refine (CRD _ _ _ _ _ FV.out.now).out.mono ?_;rintro e w7b ⟨f6,s6,o6,k6,rfl,hst,hb⟩;rw [show numI E=Value.int .i64 E from rfl];have hs:=zf5 FV.out hst hb (fun j hj=>by rcases hj with rfl | rfl;exact O8.out.lt;exact O10.out.lt);clear hst;obtain ⟨⟨oa7,ca7,rfl⟩,⟨ob7,cb7,rfl⟩,⟨oc7,cc7,rfl⟩,⟨od7,cd7,rfl⟩⟩:=hs.now.shape;replace O8:=y53h (O8.out.later hb);replace O10:=y53h (O10.out.later hb);replace O14:=y53h (O14.out.later hb);replace FT:=y53h (FT.out.later hb);replace BEL:=y53h (BEL.out.trans (Below.mono hb BEL.out.size));have X7:=y53h hs;clear hs hb)
                 | (refine wpList_store_mid (by rfl) 40 _ _ (by rfl) w7.heap.size 0 (stA U (.slice oa7 U.f.kids.length ca7) (.slice ob7 U.store.length cb7) (.slice oc7 U.out.length cc7) (.slice od7 U.k.l.length cd7)) (by rfl) (by rfl) (O10.out.there (by rfl)) (by kernel_rfl) (by simp [Value.oneCell']) ?_;have HK:=y53h (And.intro (O10.out.sets (stA U (.slice oa7 U.f.kids.length ca7) (.slice ob7 U.store.length cb7) (.slice oc7 U.out.length cc7) (.slice od7 U.k.l.length cd7)).toList (by rfl)) (And.intro (O10.out.butSets (stA U (.slice oa7 U.f.kids.length ca7) (.slice ob7 U.store.length cb7) (.slice oc7 U.out.length cc7) (.slice od7 U.k.l.length cd7)).toList) (zaa (B:=w.heap.size) (b:=w7.heap.size) (by have:=Z0.out;have:=Z57.out;have:=Z13.out;have:=Z14.out;omega) (stA U (.slice oa7 U.f.kids.length ca7) (.slice ob7 U.store.length cb7) (.slice oc7 U.out.length cc7) (.slice od7 U.k.l.length cd7)).toList 0 BEL.out)));revert HK;generalize World.setCells _ _ _ _=W24;intro HK;replace O10:=y53h HK.out.1;replace O8:=y53h (O8.out.but HK.out.2.1 (show ¬ (w5.heap.size=w7.heap.size) from by have:=Z57.out;have:=Z13.out;have:=Z14.out;omega));have FV9:=y53h (X7.out.but HK.out.2.1 (fun j hj=>Or.inr hj));clear X7;clear FV;have FT9:=y53h (FT.out.but HK.out.2.1 (fun j hj=>Or.inr hj));clear FT;replace BEL:=y53h HK.out.2.2;clear HK;have FV:=FV9;clear FV9;have FT:=FT9;clear FT9)
                 | fail)
             clear O14 CRD
             go_upto_region 34 with (first
                 | (refine wpList_load_mid (by rfl) 40 _ (by rfl) w5.heap.size 0 (by rfl) (stA U (.slice oa6 U.f.kids.length ca6) (.slice ob6 U.store.length cb6) (.slice oc6 U.out.length cc6) (.slice od6 U.k.l.length cd6)).toList _ (by exact O8.out.part 0 _ (by rfl)) Tryz.underlying40 (by rfl) (by kernel_rfl) ?_)
                 | (refine wpList_load_mid (by rfl) 40 _ (by rfl) w7.heap.size 0 (by rfl) (stA U (.slice oa7 U.f.kids.length ca7) (.slice ob7 U.store.length cb7) (.slice oc7 U.out.length cc7) (.slice od7 U.k.l.length cd7)).toList _ (by exact O10.out.part 0 _ (by rfl)) Tryz.underlying40 (by rfl) (by kernel_rfl) ?_)
                 | (go_at_call 24;refine (CA _ _ _ _ _ _ _ _ _ FT.out.now FV.out.now).out.mono ?_;rintro e wy ⟨rfl,hb⟩;replace O8:=y53h (O8.out.later hb);replace O10:=y53h (O10.out.later hb);replace FT:=y53h (FT.out.later hb);replace FV:=y53h (FV.out.later hb);replace BEL:=y53h (BEL.out.trans (Below.mono hb BEL.out.size));clear hb)
                 | fail)
             go_wp2_with fail
             go_roundw
             case rel=>exact ⟨k + 1,by omega,by go_num,y53h (by rw [HSTEP.out];exact ⟨_,_,_,_,_,_,_,_,⟨O8.out,O10.out,FT.out,FV.out,BEL.out⟩⟩)⟩
             case measure=>simp [intOf];omega
           · replace HSTEP:=y53h (HSTEP.out.trans (zsm hp))
             rw [hp] at CPK
             have hid:=HDX.out.z.1
             have hGU:=fun r c=>zmi hG (id:=x.z.id) (r:=r) (c:=c) (r2:=x.r2) (q2:=x.q2)
             have CG:=fun a w2 h=>y53h (zeh s.store x.z.id a w2 h)
             have CRG:=fun r0 c0 a b c d w2 (h:StW w2 s a b c d)=>y53h (zl2 s a b c d x.z.id r0 c0 x.r2 x.q2 w2 h hG hB hid)
             have CRH:=fun r0 c0 a b c d w2 (h:Sure (fun j=>j=w5.heap.size ∨ j=w7.heap.size) w2 fun w=>StW w s a b c d) hT=>y53h (zl4 (fun j=>j=w5.heap.size ∨ j=w7.heap.size) s a b c d x.z.id r0 c0 x.r2 x.q2 w2 h hT hB hid)
             have CA:=fun r0 c0 af asv ao ak bf bs bo bk w2 hA hB=>y53h (zi0 (hGU r0 c0) (zg0 (hGU r0 c0).f) ▸ zdq (zb0 s x.z.id r0 c0 x.r2 x.q2) (zb0 s x.z.id r0 c0 x.r2 x.q2) af asv ao ak bf bs bo bk w2 hA hB)
             clear hGU hG hB hid
             obtain ⟨r0,hr0⟩:∃ r0,(oldR s x).1=r0:=⟨_,rfl⟩
             obtain ⟨c0,hc0⟩:∃ c0,(oldR s x).2=c0:=⟨_,rfl⟩
             rw [hr0,hc0] at HSTEP
             replace CRG:=CRG r0 c0
             replace CRH:=CRH r0 c0
             replace CA:=CA r0 c0
             generalize zb0 s x.z.id r0 c0 x.r2 x.q2=U at *
             unfold oldR at hr0 hc0
             obtain ⟨g,there,hg⟩:∃ g there,getI s.store x.z.id=(g,there):=⟨_,_,rfl⟩
             rw [hg] at CG hr0 hc0
             simp only at CG hr0 hc0
             go_upto_region 26 with (first
                 | (go_at_call 16;refine (CPK _).out.mono ?_;rintro e wy ⟨rfl,rfl⟩)
                 | fail)
             clear O14 CPK
             go_upto_region 27 with fail
             clear l13 z13
             have FT0:=FT
             have FV0:=FV
             have BE18:=y53h (Below.refl VO14.heap.size VO14)
             have Z18:=y53h (show wr.heap.size < VO14.heap.size from O13.out.lt)
             have O18:=y53h (Own.new VO14 #[.int .i64 x.r,.int .i64 x.c] 52)
             have hb9:Below VO14.heap.size VO14 (VO14.alloc (.cells #[.int .i64 x.r,.int .i64 x.c] 52)):=(Below.refl _ _).alloc (Nat.le_refl _) _
             replace O8:=y53h (O8.out.later hb9)
             replace O10:=y53h (O10.out.later hb9)
             replace O13:=y53h (O13.out.later hb9)
             replace FT:=y53h (FT.out.later hb9)
             replace FV:=y53h (FV.out.later hb9)
             replace BEL:=y53h (BEL.out.trans (Below.mono hb9 BEL.out.size))
             replace BE18:=y53h (BE18.out.trans (Below.mono hb9 BE18.out.size))
             clear hb9
             revert BEL
             revert BE18
             revert O8
             revert O10
             revert O13
             revert FT
             revert FV
             revert O18
             generalize World.alloc _ _=VO18
             intro O18 FV FT O13 O10 O8 BE18 BEL
             try simp only [Act.put]
             have l13:=O13.out.cell
             have z13:=O13.out.lt
             have l10:=O10.out.cell
             have z10:=O10.out.lt
             go_upto_region 28 with (first
                 | (go_at_call 19;refine (CG _ _ FV.out.now.ls).out.mono ?_;rintro e wg ⟨rfl,hb⟩;replace O8:=y53h (O8.out.later hb);replace O10:=y53h (O10.out.later hb);replace O13:=y53h (O13.out.later hb);replace O18:=y53h (O18.out.later hb);replace FT:=y53h (FT.out.later hb);replace FV:=y53h (FV.out.later hb);replace BEL:=y53h (BEL.out.trans (Below.mono hb BEL.out.size));replace BE18:=y53h (BE18.out.trans (Below.mono hb BE18.out.size));clear hb)
                 | fail)
             clear l13 z13 l10 z10 CG
             have O19:=y53h (Own.new wg (iA g) 58)
             have hb9:Below wg.heap.size wg (wg.alloc (.cells (iA g) 58)):=(Below.refl _ _).alloc (Nat.le_refl _) _
             replace O8:=y53h (O8.out.later hb9)
             replace O10:=y53h (O10.out.later hb9)
             replace O13:=y53h (O13.out.later hb9)
             replace O18:=y53h (O18.out.later hb9)
             replace FT:=y53h (FT.out.later hb9)
             replace FV:=y53h (FV.out.later hb9)
             replace BEL:=y53h (BEL.out.trans (Below.mono hb9 BEL.out.size))
             replace BE18:=y53h (BE18.out.trans (Below.mono hb9 BE18.out.size))
             clear hb9
             revert BEL
             revert BE18
             revert O8
             revert O10
             revert O13
             revert O18
             revert FT
             revert FV
             revert O19
             generalize World.alloc _ _=VO19
             intro O19 FV FT O18 O13 O10 O8 BE18 BEL
             try simp only [Act.put]
             rcases (show there=false ∨ (there=true∧x.n.tmod 2=0) ∨ (there=true∧¬ x.n.tmod 2=0) by cases there;exact .inl rfl;exact .inr ((Classical.em _).imp (fun h=>⟨rfl,h⟩) fun h=>⟨rfl,h⟩)) with ht | ⟨ht,hn⟩ | ⟨ht,hn⟩
             · subst ht
               rw [if_neg (fun h=>Bool.false_ne_true h.1)] at hr0 hc0
               simp only at hr0 hc0
               subst hr0 hc0
               go_upto_region 30 with fail
               clear O19
               have l13:=O13.out.cell
               have z13:=O13.out.lt
               go_upto_region 31 with (first
                   | (refine wpList_load_mid (by rfl) 40 _ (by rfl) w5.heap.size 0 (by rfl) (stA s f5 s5 o5 k5).toList _ (by exact O8.out.part 0 _ (by rfl)) Tryz.underlying40 (by rfl) (by kernel_rfl) ?_)
                   | (refine wpList_load_mid (by rfl) 52 _ (by rfl) VO14.heap.size 0 (by rfl) [.int .i64 x.r,.int .i64 x.c] _ (by exact O18.out.part 0 _ (by rfl)) Tryz.underlying52 (by rfl) (by kernel_rfl) ?_)
                   | (refine wpList_load_mid (by rfl) 52 _ (by rfl) wr.heap.size 13 (by rfl) [.int .i64 x.r2,.int .i64 x.q2] _ (by exact O13.out.part 13 _ (by rfl)) Tryz.underlying52 (by rfl) (by kernel_rfl) ?_)
                   | (go_at_call 20;refine (CRG _ _ _ _ _ FT.out.now).out.mono ?_;rintro e w30 ⟨f6,s6,o6,k6,rfl,hst,hb⟩;replace hst:=hst.mono (T':=(fun j=>j=w5.heap.size ∨ j=w7.heap.size)) (fun j hj=>by rcases hj with rfl | rfl;exact O8.out.lt;exact O10.out.lt);obtain ⟨⟨oa6,ca6,rfl⟩,⟨ob6,cb6,rfl⟩,⟨oc6,cc6,rfl⟩,⟨od6,cd6,rfl⟩⟩:=hst.now.shape;replace O8:=y53h (O8.out.later hb);replace O10:=y53h (O10.out.later hb);replace O13:=y53h (O13.out.later hb);replace O18:=y53h (O18.out.later hb);replace FT:=y53h (FT.out.later hb);replace FV:=y53h (FV.out.later hb);replace BEL:=y53h (BEL.out.trans (Below.mono hb BEL.out.size));have X6:=y53h hst;clear hst hb)
                   | (refine wpList_store_mid (by rfl) 40 _ _ (by rfl) w5.heap.size 0 (stA U (.slice oa6 U.f.kids.length ca6) (.slice ob6 U.store.length cb6) (.slice oc6 U.out.length cc6) (.slice od6 U.k.l.length cd6)) (by rfl) (by rfl) (O8.out.there (by rfl)) (by kernel_rfl) (by simp [Value.oneCell']) ?_;have HK:=y53h (And.intro (O8.out.sets (stA U (.slice oa6 U.f.kids.length ca6) (.slice ob6 U.store.length cb6) (.slice oc6 U.out.length cc6) (.slice od6 U.k.l.length cd6)).toList (by rfl)) (And.intro (O8.out.butSets (stA U (.slice oa6 U.f.kids.length ca6) (.slice ob6 U.store.length cb6) (.slice oc6 U.out.length cc6) (.slice od6 U.k.l.length cd6)).toList) (zaa (B:=w.heap.size) (b:=w5.heap.size) (by have:=Z0.out;have:=Z57.out;have:=Z13.out;have:=Z14.out;have:=Z18.out;omega) (stA U (.slice oa6 U.f.kids.length ca6) (.slice ob6 U.store.length cb6) (.slice oc6 U.out.length cc6) (.slice od6 U.k.l.length cd6)).toList 0 BEL.out)));revert HK;generalize World.setCells _ _ _ _=W30;intro HK;replace O8:=y53h HK.out.1;replace O10:=y53h (O10.out.but HK.out.2.1 (show ¬ (w7.heap.size=w5.heap.size) from by have:=Z57.out;have:=Z13.out;have:=Z14.out;have:=Z18.out;omega));replace O13:=y53h (O13.out.but HK.out.2.1 (show ¬ (wr.heap.size=w5.heap.size) from by have:=Z57.out;have:=Z13.out;have:=Z14.out;have:=Z18.out;omega));replace O18:=y53h (O18.out.but HK.out.2.1 (show ¬ (VO14.heap.size=w5.heap.size) from by have:=Z57.out;have:=Z13.out;have:=Z14.out;have:=Z18.out;omega));have FT9:=y53h (X6.out.but HK.out.2.1 (fun j hj=>Or.inl hj));clear X6;clear FT;have FV9:=y53h (FV.out.but HK.out.2.1 (fun j hj=>Or.inl hj));clear FV;replace BEL:=y53h HK.out.2.2;clear l13 z13;clear HK;have FT:=FT9;clear FT9;have FV:=FV9;clear FV9)
                   | fail)
               have l13:=O13.out.cell
               have z13:=O13.out.lt
               go_upto_region 33 with (first
                   | (refine wpList_load_mid (by rfl) 40 _ (by rfl) w7.heap.size 0 (by rfl) (stA s f7 s7 o7 k7).toList _ (by exact O10.out.part 0 _ (by rfl)) Tryz.underlying40 (by rfl) (by kernel_rfl) ?_)
                   | (refine wpList_load_mid (by rfl) 52 _ (by rfl) VO14.heap.size 0 (by rfl) [.int .i64 x.r,.int .i64 x.c] _ (by exact O18.out.part 0 _ (by rfl)) Tryz.underlying52 (by rfl) (by kernel_rfl) ?_)
                   | (refine wpList_load_mid (by rfl) 52 _ (by rfl) wr.heap.size 13 (by rfl) [.int .i64 x.r2,.int .i64 x.q2] _ (by exact O13.out.part 13 _ (by rfl)) Tryz.underlying52 (by rfl) (by kernel_rfl) ?_)
                   | (go_at_call 21;refine (CRH _ _ _ _ _ FV.out (fun j hj=>by rcases hj with rfl | rfl;exact O8.out.lt;exact O10.out.lt)).out.mono ?_;rintro e w31 ⟨f7,s7,o7,k7,rfl,hst,hb⟩;obtain ⟨⟨oa7,ca7,rfl⟩,⟨ob7,cb7,rfl⟩,⟨oc7,cc7,rfl⟩,⟨od7,cd7,rfl⟩⟩:=hst.now.shape;replace O8:=y53h (O8.out.later hb);replace O10:=y53h (O10.out.later hb);replace O13:=y53h (O13.out.later hb);replace O18:=y53h (O18.out.later hb);replace FT:=y53h (FT.out.later hb);replace BEL:=y53h (BEL.out.trans (Below.mono hb BEL.out.size));have X7:=y53h hst;clear hst hb)
                   | (refine wpList_store_mid (by rfl) 40 _ _ (by rfl) w7.heap.size 0 (stA U (.slice oa7 U.f.kids.length ca7) (.slice ob7 U.store.length cb7) (.slice oc7 U.out.length cc7) (.slice od7 U.k.l.length cd7)) (by rfl) (by rfl) (O10.out.there (by rfl)) (by kernel_rfl) (by simp [Value.oneCell']) ?_;have HK:=y53h (And.intro (O10.out.sets (stA U (.slice oa7 U.f.kids.length ca7) (.slice ob7 U.store.length cb7) (.slice oc7 U.out.length cc7) (.slice od7 U.k.l.length cd7)).toList (by rfl)) (And.intro (O10.out.butSets (stA U (.slice oa7 U.f.kids.length ca7) (.slice ob7 U.store.length cb7) (.slice oc7 U.out.length cc7) (.slice od7 U.k.l.length cd7)).toList) (zaa (B:=w.heap.size) (b:=w7.heap.size) (by have:=Z0.out;have:=Z57.out;have:=Z13.out;have:=Z14.out;have:=Z18.out;omega) (stA U (.slice oa7 U.f.kids.length ca7) (.slice ob7 U.store.length cb7) (.slice oc7 U.out.length cc7) (.slice od7 U.k.l.length cd7)).toList 0 BEL.out)));revert HK;generalize World.setCells _ _ _ _=W31;intro HK;replace O10:=y53h HK.out.1;replace O8:=y53h (O8.out.but HK.out.2.1 (show ¬ (w5.heap.size=w7.heap.size) from by have:=Z57.out;have:=Z13.out;have:=Z14.out;have:=Z18.out;omega));replace O13:=y53h (O13.out.but HK.out.2.1 (show ¬ (wr.heap.size=w7.heap.size) from by have:=Z57.out;have:=Z13.out;have:=Z14.out;have:=Z18.out;omega));replace O18:=y53h (O18.out.but HK.out.2.1 (show ¬ (VO14.heap.size=w7.heap.size) from by have:=Z57.out;have:=Z13.out;have:=Z14.out;have:=Z18.out;omega));have FV9:=y53h (X7.out.but HK.out.2.1 (fun j hj=>Or.inr hj));clear X7;clear FV;have FT9:=y53h (FT.out.but HK.out.2.1 (fun j hj=>Or.inr hj));clear FT;replace BEL:=y53h HK.out.2.2;clear l13 z13;clear HK;have FV:=FV9;clear FV9;have FT:=FT9;clear FT9)
                   | fail)
               clear O13 O18
               go_upto_region 34 with (first
                   | (refine wpList_load_mid (by rfl) 40 _ (by rfl) w5.heap.size 0 (by rfl) (stA U (.slice oa6 U.f.kids.length ca6) (.slice ob6 U.store.length cb6) (.slice oc6 U.out.length cc6) (.slice od6 U.k.l.length cd6)).toList _ (by exact O8.out.part 0 _ (by rfl)) Tryz.underlying40 (by rfl) (by kernel_rfl) ?_)
                   | (refine wpList_load_mid (by rfl) 40 _ (by rfl) w7.heap.size 0 (by rfl) (stA U (.slice oa7 U.f.kids.length ca7) (.slice ob7 U.store.length cb7) (.slice oc7 U.out.length cc7) (.slice od7 U.k.l.length cd7)).toList _ (by exact O10.out.part 0 _ (by rfl)) Tryz.underlying40 (by rfl) (by kernel_rfl) ?_)
                   | (go_at_call 24;refine (CA _ _ _ _ _ _ _ _ _ FT.out.now FV.out.now).out.mono ?_;rintro e wy ⟨rfl,hb⟩;replace O8:=y53h (O8.out.later hb);replace O10:=y53h (O10.out.later hb);replace FT:=y53h (FT.out.later hb);replace FV:=y53h (FV.out.later hb);replace BEL:=y53h (BEL.out.trans (Below.mono hb BEL.out.size));clear hb)
                   | fail)
               go_wp2_with fail
               go_roundw
               case rel=>exact ⟨k + 1,by omega,by go_num,y53h (by rw [HSTEP.out];exact ⟨_,_,_,_,_,_,_,_,⟨O8.out,O10.out,FT.out,FV.out,BEL.out⟩⟩)⟩
               case measure=>simp [intOf];omega
             · subst ht
               rw [if_pos ⟨rfl,hn⟩] at hr0 hc0
               simp only at hr0 hc0
               subst hr0 hc0
               have l13:=O13.out.cell
               have z13:=O13.out.lt
               go_upto_region 29 with fail
               clear l13 z13 hn
               go_upto_region 30 with (first
                   | (refine wpList_load_mid (by rfl) 52 _ (by rfl) wg.heap.size 1 (by rfl) [.int .i64 g.r,.int .i64 g.c] _ (by exact O19.out.part 1 _ (by rfl)) Tryz.underlying52 (by rfl) (by kernel_rfl) ?_)
                   | (refine wpList_store_mid (by rfl) 52 _ _ (by rfl) VO14.heap.size 0 #[.int .i64 g.r,.int .i64 g.c] (by rfl) (by rfl) (O18.out.there (by rfl)) (by kernel_rfl) (by simp [Value.oneCell']) ?_;have HK:=y53h (And.intro (O18.out.sets #[.int .i64 g.r,.int .i64 g.c].toList (by rfl)) (And.intro (O18.out.butSets #[.int .i64 g.r,.int .i64 g.c].toList) (zaa (B:=w.heap.size) (b:=VO14.heap.size) (by have:=Z0.out;have:=Z57.out;have:=Z13.out;have:=Z14.out;have:=Z18.out;omega) #[.int .i64 g.r,.int .i64 g.c].toList 0 BEL.out)));revert HK;generalize World.setCells _ _ _ _=W29;intro HK;replace O18:=y53h HK.out.1;replace O8:=y53h (O8.out.but HK.out.2.1 (show ¬ (w5.heap.size=VO14.heap.size) from by have:=Z57.out;have:=Z13.out;have:=Z14.out;have:=Z18.out;omega));replace O10:=y53h (O10.out.but HK.out.2.1 (show ¬ (w7.heap.size=VO14.heap.size) from by have:=Z57.out;have:=Z13.out;have:=Z14.out;have:=Z18.out;omega));replace O13:=y53h (O13.out.but HK.out.2.1 (show ¬ (wr.heap.size=VO14.heap.size) from by have:=Z57.out;have:=Z13.out;have:=Z14.out;have:=Z18.out;omega));replace BEL:=y53h HK.out.2.2;clear FT FV;have FT:=y53h (((FT0.out.fresh BE18.out (Nat.le_refl _)).but HK.out.2.1 (fun j hj=>Or.inr hj)).mono (fun j hj=>Or.inl hj));have FV:=y53h (((FV0.out.fresh BE18.out (Nat.le_refl _)).but HK.out.2.1 (fun j hj=>Or.inr hj)).mono (fun j hj=>Or.inl hj));clear HK)
                   | fail)
               clear O19 FT0 FV0 BE18
               have l13:=O13.out.cell
               have z13:=O13.out.lt
               go_upto_region 31 with (first
                   | (refine wpList_load_mid (by rfl) 40 _ (by rfl) w5.heap.size 0 (by rfl) (stA s f5 s5 o5 k5).toList _ (by exact O8.out.part 0 _ (by rfl)) Tryz.underlying40 (by rfl) (by kernel_rfl) ?_)
                   | (refine wpList_load_mid (by rfl) 52 _ (by rfl) VO14.heap.size 0 (by rfl) [.int .i64 g.r,.int .i64 g.c] _ (by exact O18.out.part 0 _ (by rfl)) Tryz.underlying52 (by rfl) (by kernel_rfl) ?_)
                   | (refine wpList_load_mid (by rfl) 52 _ (by rfl) wr.heap.size 13 (by rfl) [.int .i64 x.r2,.int .i64 x.q2] _ (by exact O13.out.part 13 _ (by rfl)) Tryz.underlying52 (by rfl) (by kernel_rfl) ?_)
                   | (go_at_call 20;refine (CRG _ _ _ _ _ FT.out.now).out.mono ?_;rintro e w30 ⟨f6,s6,o6,k6,rfl,hst,hb⟩;replace hst:=hst.mono (T':=(fun j=>j=w5.heap.size ∨ j=w7.heap.size)) (fun j hj=>by rcases hj with rfl | rfl;exact O8.out.lt;exact O10.out.lt);obtain ⟨⟨oa6,ca6,rfl⟩,⟨ob6,cb6,rfl⟩,⟨oc6,cc6,rfl⟩,⟨od6,cd6,rfl⟩⟩:=hst.now.shape;replace O8:=y53h (O8.out.later hb);replace O10:=y53h (O10.out.later hb);replace O13:=y53h (O13.out.later hb);replace O18:=y53h (O18.out.later hb);replace FT:=y53h (FT.out.later hb);replace FV:=y53h (FV.out.later hb);replace BEL:=y53h (BEL.out.trans (Below.mono hb BEL.out.size));have X6:=y53h hst;clear hst hb)
                   | (refine wpList_store_mid (by rfl) 40 _ _ (by rfl) w5.heap.size 0 (stA U (.slice oa6 U.f.kids.length ca6) (.slice ob6 U.store.length cb6) (.slice oc6 U.out.length cc6) (.slice od6 U.k.l.length cd6)) (by rfl) (by rfl) (O8.out.there (by rfl)) (by kernel_rfl) (by simp [Value.oneCell']) ?_;have HK:=y53h (And.intro (O8.out.sets (stA U (.slice oa6 U.f.kids.length ca6) (.slice ob6 U.store.length cb6) (.slice oc6 U.out.length cc6) (.slice od6 U.k.l.length cd6)).toList (by rfl)) (And.intro (O8.out.butSets (stA U (.slice oa6 U.f.kids.length ca6) (.slice ob6 U.store.length cb6) (.slice oc6 U.out.length cc6) (.slice od6 U.k.l.length cd6)).toList) (zaa (B:=w.heap.size) (b:=w5.heap.size) (by have:=Z0.out;have:=Z57.out;have:=Z13.out;have:=Z14.out;have:=Z18.out;omega) (stA U (.slice oa6 U.f.kids.length ca6) (.slice ob6 U.store.length cb6) (.slice oc6 U.out.length cc6) (.slice od6 U.k.l.length cd6)).toList 0 BEL.out)));revert HK;generalize World.setCells _ _ _ _=W30;intro HK;replace O8:=y53h HK.out.1;replace O10:=y53h (O10.out.but HK.out.2.1 (show ¬ (w7.heap.size=w5.heap.size) from by have:=Z57.out;have:=Z13.out;have:=Z14.out;have:=Z18.out;omega));replace O13:=y53h (O13.out.but HK.out.2.1 (show ¬ (wr.heap.size=w5.heap.size) from by have:=Z57.out;have:=Z13.out;have:=Z14.out;have:=Z18.out;omega));replace O18:=y53h (O18.out.but HK.out.2.1 (show ¬ (VO14.heap.size=w5.heap.size) from by have:=Z57.out;have:=Z13.out;have:=Z14.out;have:=Z18.out;omega));have FT9:=y53h (X6.out.but HK.out.2.1 (fun j hj=>Or.inl hj));clear X6;clear FT;have FV9:=y53h (FV.out.but HK.out.2.1 (fun j hj=>Or.inl hj));clear FV;replace BEL:=y53h HK.out.2.2;clear l13 z13;clear HK;have FT:=FT9;clear FT9;have FV:=FV9;clear FV9)
                   | fail)
               have l13:=O13.out.cell
               have z13:=O13.out.lt
               go_upto_region 33 with (first
                   | (refine wpList_load_mid (by rfl) 40 _ (by rfl) w7.heap.size 0 (by rfl) (stA s f7 s7 o7 k7).toList _ (by exact O10.out.part 0 _ (by rfl)) Tryz.underlying40 (by rfl) (by kernel_rfl) ?_)
                   | (refine wpList_load_mid (by rfl) 52 _ (by rfl) VO14.heap.size 0 (by rfl) [.int .i64 g.r,.int .i64 g.c] _ (by exact O18.out.part 0 _ (by rfl)) Tryz.underlying52 (by rfl) (by kernel_rfl) ?_)
                   | (refine wpList_load_mid (by rfl) 52 _ (by rfl) wr.heap.size 13 (by rfl) [.int .i64 x.r2,.int .i64 x.q2] _ (by exact O13.out.part 13 _ (by rfl)) Tryz.underlying52 (by rfl) (by kernel_rfl) ?_)
                   | (go_at_call 21;refine (CRH _ _ _ _ _ FV.out (fun j hj=>by rcases hj with rfl | rfl;exact O8.out.lt;exact O10.out.lt)).out.mono ?_;rintro e w31 ⟨f7,s7,o7,k7,rfl,hst,hb⟩;obtain ⟨⟨oa7,ca7,rfl⟩,⟨ob7,cb7,rfl⟩,⟨oc7,cc7,rfl⟩,⟨od7,cd7,rfl⟩⟩:=hst.now.shape;replace O8:=y53h (O8.out.later hb);replace O10:=y53h (O10.out.later hb);replace O13:=y53h (O13.out.later hb);replace O18:=y53h (O18.out.later hb);replace FT:=y53h (FT.out.later hb);replace BEL:=y53h (BEL.out.trans (Below.mono hb BEL.out.size));have X7:=y53h hst;clear hst hb)
                   | (refine wpList_store_mid (by rfl) 40 _ _ (by rfl) w7.heap.size 0 (stA U (.slice oa7 U.f.kids.length ca7) (.slice ob7 U.store.length cb7) (.slice oc7 U.out.length cc7) (.slice od7 U.k.l.length cd7)) (by rfl) (by rfl) (O10.out.there (by rfl)) (by kernel_rfl) (by simp [Value.oneCell']) ?_;have HK:=y53h (And.intro (O10.out.sets (stA U (.slice oa7 U.f.kids.length ca7) (.slice ob7 U.store.length cb7) (.slice oc7 U.out.length cc7) (.slice od7 U.k.l.length cd7)).toList (by rfl)) (And.intro (O10.out.butSets (stA U (.slice oa7 U.f.kids.length ca7) (.slice ob7 U.store.length cb7) (.slice oc7 U.out.length cc7) (.slice od7 U.k.l.length cd7)).toList) (zaa (B:=w.heap.size) (b:=w7.heap.size) (by have:=Z0.out;have:=Z57.out;have:=Z13.out;have:=Z14.out;have:=Z18.out;omega) (stA U (.slice oa7 U.f.kids.length ca7) (.slice ob7 U.store.length cb7) (.slice oc7 U.out.length cc7) (.slice od7 U.k.l.length cd7)).toList 0 BEL.out)));revert HK;generalize World.setCells _ _ _ _=W31;intro HK;replace O10:=y53h HK.out.1;replace O8:=y53h (O8.out.but HK.out.2.1 (show ¬ (w5.heap.size=w7.heap.size) from by have:=Z57.out;have:=Z13.out;have:=Z14.out;have:=Z18.out;omega));replace O13:=y53h (O13.out.but HK.out.2.1 (show ¬ (wr.heap.size=w7.heap.size) from by have:=Z57.out;have:=Z13.out;have:=Z14.out;have:=Z18.out;omega));replace O18:=y53h (O18.out.but HK.out.2.1 (show ¬ (VO14.heap.size=w7.heap.size) from by have:=Z57.out;have:=Z13.out;have:=Z14.out;have:=Z18.out;omega));have FV9:=y53h (X7.out.but HK.out.2.1 (fun j hj=>Or.inr hj));clear X7;clear FV;have FT9:=y53h (FT.out.but HK.out.2.1 (fun j hj=>Or.inr hj));clear FT;replace BEL:=y53h HK.out.2.2;clear l13 z13;clear HK;have FV:=FV9;clear FV9;have FT:=FT9;clear FT9)
                   | fail)
               clear O13 O18
               go_upto_region 34 with (first
                   | (refine wpList_load_mid (by rfl) 40 _ (by rfl) w5.heap.size 0 (by rfl) (stA U (.slice oa6 U.f.kids.length ca6) (.slice ob6 U.store.length cb6) (.slice oc6 U.out.length cc6) (.slice od6 U.k.l.length cd6)).toList _ (by exact O8.out.part 0 _ (by rfl)) Tryz.underlying40 (by rfl) (by kernel_rfl) ?_)
                   | (refine wpList_load_mid (by rfl) 40 _ (by rfl) w7.heap.size 0 (by rfl) (stA U (.slice oa7 U.f.kids.length ca7) (.slice ob7 U.store.length cb7) (.slice oc7 U.out.length cc7) (.slice od7 U.k.l.length cd7)).toList _ (by exact O10.out.part 0 _ (by rfl)) Tryz.underlying40 (by rfl) (by kernel_rfl) ?_)
                   | (go_at_call 24;refine (CA _ _ _ _ _ _ _ _ _ FT.out.now FV.out.now).out.mono ?_;rintro e wy ⟨rfl,hb⟩;replace O8:=y53h (O8.out.later hb);replace O10:=y53h (O10.out.later hb);replace FT:=y53h (FT.out.later hb);replace FV:=y53h (FV.out.later hb);replace BEL:=y53h (BEL.out.trans (Below.mono hb BEL.out.size));clear hb)
                   | fail)
               go_wp2_with fail
               go_roundw
               case rel=>exact ⟨k + 1,by omega,by go_num,y53h (by rw [HSTEP.out];exact ⟨_,_,_,_,_,_,_,_,⟨O8.out,O10.out,FT.out,FV.out,BEL.out⟩⟩)⟩
               case measure=>simp [intOf];omega
             · subst ht
               rw [if_neg (fun h=>hn h.2)] at hr0 hc0
               simp only at hr0 hc0
               subst hr0 hc0
               have l13:=O13.out.cell
               have z13:=O13.out.lt
               have hn2:(x.n.tmod 2 == 0)=false:=by simp [hn]
               clear hn
               go_upto_region 30 with fail
               clear O19 l13 z13 hn2
               have l13:=O13.out.cell
               have z13:=O13.out.lt
               go_upto_region 31 with (first
                   | (refine wpList_load_mid (by rfl) 40 _ (by rfl) w5.heap.size 0 (by rfl) (stA s f5 s5 o5 k5).toList _ (by exact O8.out.part 0 _ (by rfl)) Tryz.underlying40 (by rfl) (by kernel_rfl) ?_)
                   | (refine wpList_load_mid (by rfl) 52 _ (by rfl) VO14.heap.size 0 (by rfl) [.int .i64 x.r,.int .i64 x.c] _ (by exact O18.out.part 0 _ (by rfl)) Tryz.underlying52 (by rfl) (by kernel_rfl) ?_)
                   | (refine wpList_load_mid (by rfl) 52 _ (by rfl) wr.heap.size 13 (by rfl) [.int .i64 x.r2,.int .i64 x.q2] _ (by exact O13.out.part 13 _ (by rfl)) Tryz.underlying52 (by rfl) (by kernel_rfl) ?_)
                   | (go_at_call 20;refine (CRG _ _ _ _ _ FT.out.now).out.mono ?_;rintro e w30 ⟨f6,s6,o6,k6,rfl,hst,hb⟩;replace hst:=hst.mono (T':=(fun j=>j=w5.heap.size ∨ j=w7.heap.size)) (fun j hj=>by rcases hj with rfl | rfl;exact O8.out.lt;exact O10.out.lt);obtain ⟨⟨oa6,ca6,rfl⟩,⟨ob6,cb6,rfl⟩,⟨oc6,cc6,rfl⟩,⟨od6,cd6,rfl⟩⟩:=hst.now.shape;replace O8:=y53h (O8.out.later hb);replace O10:=y53h (O10.out.later hb);replace O13:=y53h (O13.out.later hb);replace O18:=y53h (O18.out.later hb);replace FT:=y53h (FT.out.later hb);replace FV:=y53h (FV.out.later hb);replace BEL:=y53h (BEL.out.trans (Below.mono hb BEL.out.size));have X6:=y53h hst;clear hst hb)
                   | (refine wpList_store_mid (by rfl) 40 _ _ (by rfl) w5.heap.size 0 (stA U (.slice oa6 U.f.kids.length ca6) (.slice ob6 U.store.length cb6) (.slice oc6 U.out.length cc6) (.slice od6 U.k.l.length cd6)) (by rfl) (by rfl) (O8.out.there (by rfl)) (by kernel_rfl) (by simp [Value.oneCell']) ?_;have HK:=y53h (And.intro (O8.out.sets (stA U (.slice oa6 U.f.kids.length ca6) (.slice ob6 U.store.length cb6) (.slice oc6 U.out.length cc6) (.slice od6 U.k.l.length cd6)).toList (by rfl)) (And.intro (O8.out.butSets (stA U (.slice oa6 U.f.kids.length ca6) (.slice ob6 U.store.length cb6) (.slice oc6 U.out.length cc6) (.slice od6 U.k.l.length cd6)).toList) (zaa (B:=w.heap.size) (b:=w5.heap.size) (by have:=Z0.out;have:=Z57.out;have:=Z13.out;have:=Z14.out;have:=Z18.out;omega) (stA U (.slice oa6 U.f.kids.length ca6) (.slice ob6 U.store.length cb6) (.slice oc6 U.out.length cc6) (.slice od6 U.k.l.length cd6)).toList 0 BEL.out)));revert HK;generalize World.setCells _ _ _ _=W30;intro HK;replace O8:=y53h HK.out.1;replace O10:=y53h (O10.out.but HK.out.2.1 (show ¬ (w7.heap.size=w5.heap.size) from by have:=Z57.out;have:=Z13.out;have:=Z14.out;have:=Z18.out;omega));replace O13:=y53h (O13.out.but HK.out.2.1 (show ¬ (wr.heap.size=w5.heap.size) from by have:=Z57.out;have:=Z13.out;have:=Z14.out;have:=Z18.out;omega));replace O18:=y53h (O18.out.but HK.out.2.1 (show ¬ (VO14.heap.size=w5.heap.size) from by have:=Z57.out;have:=Z13.out;have:=Z14.out;have:=Z18.out;omega));have FT9:=y53h (X6.out.but HK.out.2.1 (fun j hj=>Or.inl hj));clear X6;clear FT;have FV9:=y53h (FV.out.but HK.out.2.1 (fun j hj=>Or.inl hj));clear FV;replace BEL:=y53h HK.out.2.2;clear l13 z13;clear HK;have FT:=FT9;clear FT9;have FV:=FV9;clear FV9)
                   | fail)
               have l13:=O13.out.cell
               have z13:=O13.out.lt
               go_upto_region 33 with (first
                   | (refine wpList_load_mid (by rfl) 40 _ (by rfl) w7.heap.size 0 (by rfl) (stA s f7 s7 o7 k7).toList _ (by exact O10.out.part 0 _ (by rfl)) Tryz.underlying40 (by rfl) (by kernel_rfl) ?_)
                   | (refine wpList_load_mid (by rfl) 52 _ (by rfl) VO14.heap.size 0 (by rfl) [.int .i64 x.r,.int .i64 x.c] _ (by exact O18.out.part 0 _ (by rfl)) Tryz.underlying52 (by rfl) (by kernel_rfl) ?_)
                   | (refine wpList_load_mid (by rfl) 52 _ (by rfl) wr.heap.size 13 (by rfl) [.int .i64 x.r2,.int .i64 x.q2] _ (by exact O13.out.part 13 _ (by rfl)) Tryz.underlying52 (by rfl) (by kernel_rfl) ?_)
                   | (go_at_call 21;refine (CRH _ _ _ _ _ FV.out (fun j hj=>by rcases hj with rfl | rfl;exact O8.out.lt;exact O10.out.lt)).out.mono ?_;rintro e w31 ⟨f7,s7,o7,k7,rfl,hst,hb⟩;obtain ⟨⟨oa7,ca7,rfl⟩,⟨ob7,cb7,rfl⟩,⟨oc7,cc7,rfl⟩,⟨od7,cd7,rfl⟩⟩:=hst.now.shape;replace O8:=y53h (O8.out.later hb);replace O10:=y53h (O10.out.later hb);replace O13:=y53h (O13.out.later hb);replace O18:=y53h (O18.out.later hb);replace FT:=y53h (FT.out.later hb);replace BEL:=y53h (BEL.out.trans (Below.mono hb BEL.out.size));have X7:=y53h hst;clear hst hb)
                   | (refine wpList_store_mid (by rfl) 40 _ _ (by rfl) w7.heap.size 0 (stA U (.slice oa7 U.f.kids.length ca7) (.slice ob7 U.store.length cb7) (.slice oc7 U.out.length cc7) (.slice od7 U.k.l.length cd7)) (by rfl) (by rfl) (O10.out.there (by rfl)) (by kernel_rfl) (by simp [Value.oneCell']) ?_;have HK:=y53h (And.intro (O10.out.sets (stA U (.slice oa7 U.f.kids.length ca7) (.slice ob7 U.store.length cb7) (.slice oc7 U.out.length cc7) (.slice od7 U.k.l.length cd7)).toList (by rfl)) (And.intro (O10.out.butSets (stA U (.slice oa7 U.f.kids.length ca7) (.slice ob7 U.store.length cb7) (.slice oc7 U.out.length cc7) (.slice od7 U.k.l.length cd7)).toList) (zaa (B:=w.heap.size) (b:=w7.heap.size) (by have:=Z0.out;have:=Z57.out;have:=Z13.out;have:=Z14.out;have:=Z18.out;omega) (stA U (.slice oa7 U.f.kids.length ca7) (.slice ob7 U.store.length cb7) (.slice oc7 U.out.length cc7) (.slice od7 U.k.l.length cd7)).toList 0 BEL.out)));revert HK;generalize World.setCells _ _ _ _=W31;intro HK;replace O10:=y53h HK.out.1;replace O8:=y53h (O8.out.but HK.out.2.1 (show ¬ (w5.heap.size=w7.heap.size) from by have:=Z57.out;have:=Z13.out;have:=Z14.out;have:=Z18.out;omega));replace O13:=y53h (O13.out.but HK.out.2.1 (show ¬ (wr.heap.size=w7.heap.size) from by have:=Z57.out;have:=Z13.out;have:=Z14.out;have:=Z18.out;omega));replace O18:=y53h (O18.out.but HK.out.2.1 (show ¬ (VO14.heap.size=w7.heap.size) from by have:=Z57.out;have:=Z13.out;have:=Z14.out;have:=Z18.out;omega));have FV9:=y53h (X7.out.but HK.out.2.1 (fun j hj=>Or.inr hj));clear X7;clear FV;have FT9:=y53h (FT.out.but HK.out.2.1 (fun j hj=>Or.inr hj));clear FT;replace BEL:=y53h HK.out.2.2;clear l13 z13;clear HK;have FV:=FV9;clear FV9;have FT:=FT9;clear FT9)
                   | fail)
               clear O13 O18
               go_upto_region 34 with (first
                   | (refine wpList_load_mid (by rfl) 40 _ (by rfl) w5.heap.size 0 (by rfl) (stA U (.slice oa6 U.f.kids.length ca6) (.slice ob6 U.store.length cb6) (.slice oc6 U.out.length cc6) (.slice od6 U.k.l.length cd6)).toList _ (by exact O8.out.part 0 _ (by rfl)) Tryz.underlying40 (by rfl) (by kernel_rfl) ?_)
                   | (refine wpList_load_mid (by rfl) 40 _ (by rfl) w7.heap.size 0 (by rfl) (stA U (.slice oa7 U.f.kids.length ca7) (.slice ob7 U.store.length cb7) (.slice oc7 U.out.length cc7) (.slice od7 U.k.l.length cd7)).toList _ (by exact O10.out.part 0 _ (by rfl)) Tryz.underlying40 (by rfl) (by kernel_rfl) ?_)
                   | (go_at_call 24;refine (CA _ _ _ _ _ _ _ _ _ FT.out.now FV.out.now).out.mono ?_;rintro e wy ⟨rfl,hb⟩;replace O8:=y53h (O8.out.later hb);replace O10:=y53h (O10.out.later hb);replace FT:=y53h (FT.out.later hb);replace FV:=y53h (FV.out.later hb);replace BEL:=y53h (BEL.out.trans (Below.mono hb BEL.out.size));clear hb)
                   | fail)
               go_wp2_with fail
               go_roundw
               case rel=>exact ⟨k + 1,by omega,by go_num,y53h (by rw [HSTEP.out];exact ⟨_,_,_,_,_,_,_,_,⟨O8.out,O10.out,FT.out,FV.out,BEL.out⟩⟩)⟩
               case measure=>simp [intOf];omega
           · replace HSTEP:=y53h (HSTEP.out.trans (zxh hp))
             rw [hp] at CPK
             have hGU:=zqm hG x.d
             have CD:=fun a b c d w2 (h:StW w2 s a b c d) (hd:DeW w2 x.d x.fv)=>y53h (zte s a b c d x.d x.fv w2 h hd hG hB hsz)
             have CW:=fun a b c d w2 (h:StW w2 s a b c d) (hd:DeW w2 x.d x.fv)=>y53h (zqg s a b c d x.d x.fv w2 h hd hG hB hsz)
             have CA:=fun af asv ao ak bf bs bo bk w2 hA hB=>y53h (zi0 hGU (zg0 hGU.f) ▸ zdq (doS s x.d) (doS s x.d) af asv ao ak bf bs bo bk w2 hA hB)
             clear hGU hG hB
             generalize doS s x.d=U at *
             generalize doE s x.d=E at *
             go_upto_region 17 with (first
                 | (go_at_call 16;refine (CPK _).out.mono ?_;rintro e wy ⟨rfl,rfl⟩)
                 | fail)
             clear l13 z13 O14 CPK
             go_upto_region 18 with (first
                 | (refine wpList_load_mid (by rfl) 40 _ (by rfl) w5.heap.size 0 (by rfl) (stA s f5 s5 o5 k5).toList _ (by exact O8.out.part 0 _ (by rfl)) Tryz.underlying40 (by rfl) (by kernel_rfl) ?_)
                 | (refine wpList_load_mid (by rfl) 54 _ (by rfl) wr.heap.size 15 (by rfl) (deL x.d x.fv) _ (by exact O13.out.part 15 _ (by rfl)) Tryz.underlying54 (by rfl) (by kernel_rfl) ?_)
                 | (go_at_call 22;refine (CD _ _ _ _ _ FT.out.now (HDX.out.d.later BEL.out)).out.mono ?_;rintro e w17a ⟨f6,s6,o6,k6,rfl,hst,hb⟩;have hs:=zf5 FT.out hst hb (fun j hj=>by rcases hj with rfl | rfl;exact O8.out.lt;exact O10.out.lt);clear hst;obtain ⟨⟨oa6,ca6,rfl⟩,⟨ob6,cb6,rfl⟩,⟨oc6,cc6,rfl⟩,⟨od6,cd6,rfl⟩⟩:=hs.now.shape;replace O8:=y53h (O8.out.later hb);replace O10:=y53h (O10.out.later hb);replace O13:=y53h (O13.out.later hb);replace FV:=y53h (FV.out.later hb);replace BEL:=y53h (BEL.out.trans (Below.mono hb BEL.out.size));have X6:=y53h hs;clear hs hb)
                 | (refine wpList_store_mid (by rfl) 40 _ _ (by rfl) w5.heap.size 0 (stA U (.slice oa6 U.f.kids.length ca6) (.slice ob6 U.store.length cb6) (.slice oc6 U.out.length cc6) (.slice od6 U.k.l.length cd6)) (by rfl) (by rfl) (O8.out.there (by rfl)) (by kernel_rfl) (by simp [Value.oneCell']) ?_;have HK:=y53h (And.intro (O8.out.sets (stA U (.slice oa6 U.f.kids.length ca6) (.slice ob6 U.store.length cb6) (.slice oc6 U.out.length cc6) (.slice od6 U.k.l.length cd6)).toList (by rfl)) (And.intro (O8.out.butSets (stA U (.slice oa6 U.f.kids.length ca6) (.slice ob6 U.store.length cb6) (.slice oc6 U.out.length cc6) (.slice od6 U.k.l.length cd6)).toList) (zaa (B:=w.heap.size) (b:=w5.heap.size) (by have:=Z0.out;have:=Z57.out;have:=Z13.out;have:=Z14.out;omega) (stA U (.slice oa6 U.f.kids.length ca6) (.slice ob6 U.store.length cb6) (.slice oc6 U.out.length cc6) (.slice od6 U.k.l.length cd6)).toList 0 BEL.out)));revert HK;generalize World.setCells _ _ _ _=W17;intro HK;replace O8:=y53h HK.out.1;replace O10:=y53h (O10.out.but HK.out.2.1 (show ¬ (w7.heap.size=w5.heap.size) from by have:=Z57.out;have:=Z13.out;have:=Z14.out;omega));replace O13:=y53h (O13.out.but HK.out.2.1 (show ¬ (wr.heap.size=w5.heap.size) from by have:=Z57.out;have:=Z13.out;have:=Z14.out;omega));have FT9:=y53h (X6.out.but HK.out.2.1 (fun j hj=>Or.inl hj));clear X6;clear FT;have FV9:=y53h (FV.out.but HK.out.2.1 (fun j hj=>Or.inl hj));clear FV;replace BEL:=y53h HK.out.2.2;clear HK;have FT:=FT9;clear FT9;have FV:=FV9;clear FV9)
                 | fail)
             go_upto_region 33 with (first
                 | (refine wpList_load_mid (by rfl) 40 _ (by rfl) w7.heap.size 0 (by rfl) (stA s f7 s7 o7 k7).toList _ (by exact O10.out.part 0 _ (by rfl)) Tryz.underlying40 (by rfl) (by kernel_rfl) ?_)
                 | (refine wpList_load_mid (by rfl) 54 _ (by rfl) wr.heap.size 15 (by rfl) (deL x.d x.fv) _ (by exact O13.out.part 15 _ (by rfl)) Tryz.underlying54 (by rfl) (by kernel_rfl) ?_)
                 | (go_at_call 23;refine (CW _ _ _ _ _ FV.out.now (HDX.out.d.later BEL.out)).out.mono ?_;rintro e w17b ⟨f7,s7,o7,k7,rfl,hst,hb⟩;have hs:=zf5 FV.out hst hb (fun j hj=>by rcases hj with rfl | rfl;exact O8.out.lt;exact O10.out.lt);clear hst;obtain ⟨⟨oa7,ca7,rfl⟩,⟨ob7,cb7,rfl⟩,⟨oc7,cc7,rfl⟩,⟨od7,cd7,rfl⟩⟩:=hs.now.shape;replace O8:=y53h (O8.out.later hb);replace O10:=y53h (O10.out.later hb);replace O13:=y53h (O13.out.later hb);replace FT:=y53h (FT.out.later hb);replace BEL:=y53h (BEL.out.trans (Below.mono hb BEL.out.size));have X7:=y53h hs;clear hs hb)
                 | (refine wpList_store_mid (by rfl) 40 _ _ (by rfl) w7.heap.size 0 (stA U (.slice oa7 U.f.kids.length ca7) (.slice ob7 U.store.length cb7) (.slice oc7 U.out.length cc7) (.slice od7 U.k.l.length cd7)) (by rfl) (by rfl) (O10.out.there (by rfl)) (by kernel_rfl) (by simp [Value.oneCell']) ?_;have HK:=y53h (And.intro (O10.out.sets (stA U (.slice oa7 U.f.kids.length ca7) (.slice ob7 U.store.length cb7) (.slice oc7 U.out.length cc7) (.slice od7 U.k.l.length cd7)).toList (by rfl)) (And.intro (O10.out.butSets (stA U (.slice oa7 U.f.kids.length ca7) (.slice ob7 U.store.length cb7) (.slice oc7 U.out.length cc7) (.slice od7 U.k.l.length cd7)).toList) (zaa (B:=w.heap.size) (b:=w7.heap.size) (by have:=Z0.out;have:=Z57.out;have:=Z13.out;have:=Z14.out;omega) (stA U (.slice oa7 U.f.kids.length ca7) (.slice ob7 U.store.length cb7) (.slice oc7 U.out.length cc7) (.slice od7 U.k.l.length cd7)).toList 0 BEL.out)));revert HK;generalize World.setCells _ _ _ _=W18;intro HK;replace O10:=y53h HK.out.1;replace O8:=y53h (O8.out.but HK.out.2.1 (show ¬ (w5.heap.size=w7.heap.size) from by have:=Z57.out;have:=Z13.out;have:=Z14.out;omega));replace O13:=y53h (O13.out.but HK.out.2.1 (show ¬ (wr.heap.size=w7.heap.size) from by have:=Z57.out;have:=Z13.out;have:=Z14.out;omega));have FV9:=y53h (X7.out.but HK.out.2.1 (fun j hj=>Or.inr hj));clear X7;clear FV;have FT9:=y53h (FT.out.but HK.out.2.1 (fun j hj=>Or.inr hj));clear FT;replace BEL:=y53h HK.out.2.2;clear HK;have FV:=FV9;clear FV9;have FT:=FT9;clear FT9)
                 | fail)
             clear O13
             go_upto_region 34 with (first
                 | (refine wpList_load_mid (by rfl) 40 _ (by rfl) w5.heap.size 0 (by rfl) (stA U (.slice oa6 U.f.kids.length ca6) (.slice ob6 U.store.length cb6) (.slice oc6 U.out.length cc6) (.slice od6 U.k.l.length cd6)).toList _ (by exact O8.out.part 0 _ (by rfl)) Tryz.underlying40 (by rfl) (by kernel_rfl) ?_)
                 | (refine wpList_load_mid (by rfl) 40 _ (by rfl) w7.heap.size 0 (by rfl) (stA U (.slice oa7 U.f.kids.length ca7) (.slice ob7 U.store.length cb7) (.slice oc7 U.out.length cc7) (.slice od7 U.k.l.length cd7)).toList _ (by exact O10.out.part 0 _ (by rfl)) Tryz.underlying40 (by rfl) (by kernel_rfl) ?_)
                 | (go_at_call 24;refine (CA _ _ _ _ _ _ _ _ _ FT.out.now FV.out.now).out.mono ?_;rintro e wy ⟨rfl,hb⟩;replace O8:=y53h (O8.out.later hb);replace O10:=y53h (O10.out.later hb);replace FT:=y53h (FT.out.later hb);replace FV:=y53h (FV.out.later hb);replace BEL:=y53h (BEL.out.trans (Below.mono hb BEL.out.size));clear hb)
                 | fail)
             go_wp2_with fail
             go_roundw
             case rel=>exact ⟨k + 1,by omega,by go_num,y53h (by rw [HSTEP.out];exact ⟨_,_,_,_,_,_,_,_,⟨O8.out,O10.out,FT.out,FV.out,BEL.out⟩⟩)⟩
             case measure=>simp [intOf];omega
         · rw [if_neg hsz] at CSM
           go_wp2_with (first
               | (refine wpList_load_mid (by rfl) 25 _ (by rfl) wr.heap.size 21 (by rfl) [.int .i64 x.d.f.op,.string x.d.f.text,.int .i64 x.d.f.n,.float .f64 x.d.f.x,.float .f64 x.d.f.y,x.fv] _ (by exact O13.out.part 21 _ (by rfl)) Tryz.underlying25 (by rfl) (by kernel_rfl) ?_)
               | (go_at_call 10;refine (CSM _ (HDX.out.d.lf.later BEL.out (Nat.le_refl _))).out.mono ?_;rintro e wy ⟨rfl,hb⟩;replace O8:=y53h (O8.out.later hb);replace O10:=y53h (O10.out.later hb);replace O13:=y53h (O13.out.later hb);replace FT:=y53h (FT.out.later hb);replace FV:=y53h (FV.out.later hb);replace BEL:=y53h (BEL.out.trans (Below.mono hb BEL.out.size));clear hb)
               | fail)
           go_ret
           exact ⟨rfl,BEL.out⟩
       · go_wp2_with fail
         go_ret
         exact ⟨rfl,hP.bel⟩
 · rw [if_neg h2] at CM
   clear h2
   go_enter Tryz.func3,Tryz.ntmps3
   go_wp2_with (first | (go_at_call 9;refine (CU _).out.mono ?_;rintro e w1 ⟨rfl,hb⟩;replace OP:=y53h (OP.out.later hb);replace BEL:=y53h (BEL.out.trans (hb.mono BEL.out.size));clear hb) | (refine wpList_load_mid (by rfl) 25 _ (by rfl) w.heap.size 0 (by rfl) #[.int .i64 f.op,.string f.text,.int .i64 f.n,.float .f64 f.x,.float .f64 f.y,gv].toList _ OP.out.range Tryz.underlying25 (by rfl) (by kernel_rfl) ?_) | (go_at_call 10;refine (CM _ (HL.out.later BEL.out (Nat.le_refl _))).out.mono ?_;rintro e w2 ⟨rfl,hb⟩;replace OP:=y53h (OP.out.later hb);replace BEL:=y53h (BEL.out.trans (hb.mono BEL.out.size));clear hb) | fail)
   go_ret
   exact ⟨rfl,BEL.out⟩
end Go.Proofs.YtodfhabkdaiopaaGreat
