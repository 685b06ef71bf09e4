/- Joined: Stock, LCmp, Has, LMay. -/
import Derived.Test.YthnllikalobmeaaGreatK11
import Derived.Test.YthnllikalobmeaaGreatK01
import Derived.Test.YthnllikalobmeaaGreatK17
import Derived.Test.YthnllikalobmeaaGreatK18
import Derived.Test.YthnllikalobmeaaGreatK19
import Derived.Test.YthnllikalobmeaaGreatK12
import Derived.Deep.DeepCutAuto
namespace Go.Proofs.YthnllikalobmeaaGreat
set_option linter.unusedVariables false
set_option linter.unusedSimpArgs false
set_option maxRecDepth 100000
set_option maxHeartbeats 8000000
open Go.RowKit
theorem y21h {p:Prop} (h:p):Hid p:=Lib.hid h
def zax (V:Nat → Value):Nat → List Pr → List Value
 | _,[]=>[]
 | s,p :: l=>pc p (V s) ++ zax V (s + 1) l
theorem zhx (p:Pr) (v:Value):(pc p v).length = 5:=rfl
theorem zoo (V:Nat → Value) (s:Nat) (l:List Pr):(zax V s l).length = l.length * 5:=by
 induction l generalizing s with
 | nil=>rfl
 | cons p l ih=>simp only [zax,List.length_append,ih,zhx,List.length_cons];omega
theorem ze4 (V:Nat → Value) (s:Nat) (l:List Pr) (i:Nat) (p:Pr) (hp:l[i]? = some p) (j:Nat) (hj:j < 5):(zax V s l)[i * 5 + j]? = (pc p (V (s + i)))[j]?:=by
 induction l generalizing s i with
 | nil=>simp at hp
 | cons q l ih =>
   cases i with
   | zero =>
     simp at hp;subst hp
     simp only [zax,Nat.zero_mul,Nat.zero_add,Nat.add_zero]
     rw [List.getElem?_append_left (by rw [zhx];exact hj)]
   | succ i =>
     simp at hp
     simp only [zax]
     rw [List.getElem?_append_right (by rw [zhx];omega),zhx,show (i + 1) * 5 + j - 5 = i * 5 + j by omega,ih (s + 1) i hp,show s + 1 + i = s + (i + 1) by omega]
theorem zwi {V:Nat → Value} {s:Nat} {l:List Pr} (h:∀ i p,l[i]? = some p → (V (s + i)).oneCell' = true):∀ u ∈ zax V s l,u.oneCell' = true:=by
 induction l generalizing s with
 | nil=>simp [zax]
 | cons p l ih =>
   intro u hu
   simp only [zax,List.mem_append] at hu
   rcases hu with hu | hu
   · exact zuh (h 0 p rfl) u hu
   · exact ih (s:=s + 1) (fun i q hq=>by have:=h (i + 1) q (by simpa using hq);rwa [show s + 1 + i = s + (i + 1) by omega]) u hu
theorem zgp {V W:Nat → Value} {s s':Nat} {l:List Pr} (h:∀ i,i < l.length → V (s + i) = W (s' + i)):zax V s l = zax W s' l:=by
 induction l generalizing s s' with
 | nil=>rfl
 | cons p l ih =>
   simp only [zax]
   rw [show V s = W s' from h 0 (by simp),ih (fun i hi=>by have:=h (i + 1) (by simp;omega);rwa [show s + (i + 1) = s + 1 + i by omega,show s' + (i + 1) = s' + 1 + i by omega] at this)]
theorem zwh (V:Nat → Value) (s:Nat) (l m:List Pr):zax V s (l ++ m) = zax V s l ++ zax V (s + l.length) m:=by
 induction l generalizing s with
 | nil=>simp [zax]
 | cons p l ih=>simp only [List.cons_append,zax,ih,List.append_assoc,List.length_cons];rw [show s + 1 + l.length = s + (l.length + 1) by omega]
def zem (n:Nat) (V W:Nat → Value):Nat → Value:=fun i=>if i < n then V i else W (i - n)
theorem zub (V W:Nat → Value) (l m:List Pr):zax V 0 l ++ zax W 0 m = zax (zem l.length V W) 0 (l ++ m):=by
 rw [zwh]
 congr 1
 · exact zgp fun i hi=>by simp [zem,hi]
 · refine zgp fun i hi=>?_
   simp only [zem,Nat.zero_add]
   rw [if_neg (by omega),show l.length + i - l.length = i by omega]
def PRow (w:World) (base:Nat) (S:Nat → Prop) (l:List Pr) (v:Value) (V:Nat → Value):Prop :=
 w.ownsRow base 40 5 v l.length (zax V 0 l) ∧ ∀ i p,l[i]? = some p → Lies 5 pc S w p (V i)
structure Rw where
 l:List Pr
 v:Value
 V:Nat → Value
def Rw.nil:Rw:=⟨[],.slice .none 0 0,fun _=>.nilFunc⟩
def Sof (w:World) (base:Nat) (R:Nat → Rw) (b:Nat):Prop:=base ≤ b ∧ b < w.heap.size ∧ ∀ i,some b ≠ (R i).v.ownBlock
structure Stock (w:World) (base:Nat) (R:Nat → Rw):Prop where
 row:∀ i,PRow w base (Sof w base R) (R i).l (R i).v (R i).V
 apart:∀ i j,i ≠ j → (R i).v.ownBlock = none ∨ (R i).v.ownBlock ≠ (R j).v.ownBlock
theorem Stock.kept {w w':World} {base:Nat} {R:Nat → Rw} (h:Stock w base R) (hb:∀ b,base ≤ b → b < w.heap.size → w'.heap[b]? = w.heap[b]?) (hs:w.heap.size ≤ w'.heap.size):Stock w' base R:=by
 refine ⟨fun i=>⟨?_,fun j p hp=>?_⟩,h.apart⟩
 · obtain ⟨h1,h2⟩:=(h.row i).1
   refine ⟨h1,?_⟩
   rcases h2 with h2 | ⟨g,cap,cur,hv,hg,hh,r⟩
   · exact .inl h2
   · have hlt:=((h.row i).1.lt g (by rw [hv];rfl)).2
     exact .inr ⟨g,cap,cur,hv,hg,by rw [hb g hg hlt];exact hh,r⟩
 · exact ((h.row i).2 j p hp).mono (fun b o hS=>World.cell?_of_block (hb b hS.1 hS.2.1)) fun b hS=>⟨hS.1,Nat.lt_of_lt_of_le hS.2.1 hs,hS.2.2⟩
theorem Stock.later {w w':World} {base:Nat} {R:Nat → Rw} (h:Stock w base R) (hb:Below w.heap.size w w'):Stock w' base R:=h.kept (fun b _ hl=>hb.block b hl) hb.size
theorem Stock.alloc {w:World} {base:Nat} {R:Nat → Rw} (h:Stock w base R) (o:Obj):Stock (w.alloc o) base R:=h.later ((Below.refl _ _).alloc (Nat.le_refl _) _)
theorem Stock.drew {w:World} {base:Nat} {R:Nat → Rw} (h:Stock w base R):Stock w.drew base R:=h.later (Below.refl _ _).drew
theorem Stock.setLow {w:World} {base:Nat} {R:Nat → Rw} (h:Stock w base R) (p:Addr) (v:Value) (hp:p.block < base):Stock (w.setCell p v) base R :=
 h.kept (fun b hb _=>Below.heap_setCell _ _ _ _ (by omega)) (by simp [World.setCell])
def upd (R:Nat → Rw) (i:Nat) (r:Rw):Nat → Rw:=fun j=>if j = i then r else R j
theorem zgw (R:Nat → Rw) (i:Nat) (r:Rw):upd R i r i = r:=by simp [upd]
theorem zf7 (R:Nat → Rw) {i j:Nat} (r:Rw) (h:j ≠ i):upd R i r j = R j:=by simp [upd,h]
theorem Stock.push {w w':World} {base:Nat} {R:Nat → Rw} (h:Stock w base R) (i:Nat) (m:List Pr) (W:Nat → Value) (hm:∀ j p,m[j]? = some p → Lies 5 pc (Sof w base R) w p (W j)) {g cap n:Nat} (hn:n = (R i).l.length + m.length)
   (hown:w'.ownsRow base 40 5 (.slice (some ⟨g,0,none⟩) n cap) n (zax (R i).V 0 (R i).l ++ zax W 0 m)) (hgrow:w.grownBy w' (R i).v.ownBlock) (hat:(R i).v.ownBlock = some g ∨ g = w.heap.size) :
   Stock w' base (upd R i ⟨(R i).l ++ m,.slice (some ⟨g,0,none⟩) n cap,zem (R i).l.length (R i).V W⟩):=by
 subst hn
 have hlt:∀ j k,(R j).v.ownBlock = some k → k < w.heap.size:=fun j k hk=>((h.row j).1.lt k hk).2
 have hne:∀ j,j ≠ i → (R j).v.ownBlock ≠ some g:=by
   intro j hj e
   rcases hat with h1 | h1
   · rcases h.apart j i hj with h2 | h2
     · rw [h2] at e;cases e
     · exact h2 (by rw [e,h1])
   · have:=hlt j g e;omega
 have hS:∀ b,Sof w base R b → Sof w' base (upd R i ⟨(R i).l ++ m,.slice (some ⟨g,0,none⟩) ((R i).l.length + m.length) cap,zem (R i).l.length (R i).V W⟩) b:=by
   intro b hb
   refine ⟨hb.1,Nat.lt_of_lt_of_le hb.2.1 hgrow.size,fun j=>?_⟩
   by_cases e:j = i
   · subst e
     rw [zgw]
     simp only [Value.ownBlock,ne_eq,Option.some.injEq]
     intro e
     rcases hat with h1 | h1
     · exact hb.2.2 j (by rw [h1,e])
     · have:=hb.2.1;omega
   · rw [zf7 _ _ e];exact hb.2.2 j
 have hc:∀ b o,Sof w base R b → w'.cell? ⟨b,o,none⟩ = w.cell? ⟨b,o,none⟩:=fun b o hb=>hgrow.cell_far _ hb.2.1 (hb.2.2 i)
 refine ⟨fun j=>?_,fun j k hjk=>?_⟩
 · by_cases e:j = i
   · subst e
     rw [zgw]
     refine ⟨?_,fun a p hp=>?_⟩
     · simp only [List.length_append]
       rw [← zub];exact hown
     · simp only at hp ⊢
       by_cases ha:a < (R j).l.length
       · rw [List.getElem?_append_left ha] at hp
         have:zem (R j).l.length (R j).V W a = (R j).V a:=by simp [zem,ha]
         rw [this]
         exact ((h.row j).2 a p hp).mono hc hS
       · rw [List.getElem?_append_right (by omega)] at hp
         have:zem (R j).l.length (R j).V W a = W (a - (R j).l.length):=by simp [zem,ha]
         rw [this]
         exact (hm _ p hp).mono hc hS
   · rw [zf7 _ _ e]
     refine ⟨(h.row j).1.kept hgrow (h.apart j i e),fun a p hp=>((h.row j).2 a p hp).mono hc hS⟩
 · by_cases e:j = i
   · subst e
     rw [zgw,zf7 _ _ (fun e=>hjk e.symm)]
     exact .inr fun e=>hne k (fun e=>hjk e.symm) (by rw [← e];rfl)
   · rw [zf7 _ _ e]
     by_cases e':k = i
     · subst e'
       rw [zgw]
       exact .inr fun e2=>hne j e (by rw [e2];rfl)
     · rw [zf7 _ _ e'];exact h.apart j k hjk
theorem Stock.slice {w:World} {base:Nat} {R:Nat → Rw} (h:Stock w base R) (i:Nat):∃ (oa:Option Addr) (cap g:Nat),(R i).v = .slice oa (R i).l.length cap ∧ (R i).l.length ≤ cap ∧ cap ≤ maxLen ∧ (0 < (R i).l.length → oa = some ⟨g,0,none⟩ ∧ base ≤ g ∧ g < w.heap.size):=zan (h.row i).1
theorem Stock.at {w:World} {base:Nat} {R:Nat → Rw} (h:Stock w base R) (i:Nat) {g n cap k:Nat} {p:Pr} (hv:(R i).v = .slice (some ⟨g,0,none⟩) n cap) (hp:(R i).l[k]? = some p) :
   (w.cell? ⟨g,k * 5,none⟩ = some (.int .i64 p.op) ∧ w.cell? ⟨g,k * 5 + 1,none⟩ = some (.string p.text) ∧ w.cell? ⟨g,k * 5 + 2,none⟩ = some (.int .i64 p.n) ∧ w.cell? ⟨g,k * 5 + 3,none⟩ = some (.complex .f64 p.x p.y) ∧ w.cell? ⟨g,k * 5 + 4,none⟩ = some ((R i).V k)) ∧
     Lies 5 pc (Sof w base R) w p ((R i).V k):=by
 have h1:=(h.row i).1
 have hn:n = (R i).l.length:=by
   obtain ⟨oa,cap',g',e,_⟩:=zan h1
   rw [hv] at e;cases e;rfl
 subst hn
 rw [hv] at h1
 have hk:=zcm hp
 have c:∀ j u,(pc p ((R i).V k))[j]? = some u → w.cell? ⟨g,k * 5 + j,none⟩ = some u:=by
   intro j u hu
   have hj:j < 5:=by have:=(List.getElem?_eq_some_iff.1 hu).1;rwa [zhx] at this
   rw [h1.cellAt (k * 5 + j) (by omega),ze4 _ _ _ _ _ hp _ hj,Nat.zero_add,hu]
 exact ⟨⟨c 0 _ rfl,c 1 _ rfl,c 2 _ rfl,c 3 _ rfl,c 4 _ rfl⟩,(h.row i).2 k p hp⟩
theorem Stock.lies {w:World} {base B:Nat} {R:Nat → Rw} (h:Stock w base R) (i:Nat) (hB:B ≤ base) (op:Int) (t:ByteArray) (n:Int) (x y:Nat) (ht:t.size ≤ maxLen):Lies 5 pc (fun b=>B ≤ b ∧ b < w.heap.size) w (.node op t n x y (R i).l) (R i).v:=by
 obtain ⟨oa,cap,g,e,h1,h2,hg⟩:=h.slice i
 rw [e]
 refine .mk op t n x y _ oa cap g 0 (R i).V ht h1 h2 (fun hp=>⟨(hg hp).1,by have:=(hg hp).2;omega⟩) (fun k p hp j u hu=>?_) fun k p hp=>?_
 · obtain ⟨rfl,_⟩:=hg (by have:=zcm hp;omega)
   obtain ⟨⟨a0,a1,a2,a3,a4⟩,_⟩:=h.at i e hp
   rw [Nat.zero_add]
   match j,hu with
   | 0,hu=>cases hu;exact a0
   | 1,hu=>cases hu;exact a1
   | 2,hu=>cases hu;exact a2
   | 3,hu=>cases hu;exact a3
   | 4,hu=>cases hu;exact a4
 · exact ((h.row i).2 k p hp).mono (fun _ _ _=>rfl) fun b hS=>⟨Nat.le_trans hB hS.1,hS.2.1⟩
def cmpS (a b:ByteArray):Int:=if lsB a b = true then -1 else if lsB b a = true then 1 else 0
theorem znj (a b:ByteArray):decide (cmpS a b < 0) = lsB a b:=by
 unfold cmpS
 cases lsB a b <;> cases lsB b a <;> simp
theorem zli (a b:ByteArray):decide (cmpS a b = 0) = (a.toList == b.toList):=by
 unfold cmpS
 rcases zdd a b with h | h | h
 · rw [h,tl_ne.2 (zfk h)];simp
 · rw [h,zbe,tl_eq.2 rfl];simp
 · rw [zdn h,h,tl_ne.2 fun e=>zfk h e.symm];simp
theorem zoc (a:ByteArray) (w:World) :
   Calls Tryz.prog 168 #[.string a] w fun e w'=>e = .returned (.bool false) ∧ w = w':=by
 go_enter Tryz.func168,Tryz.ntmps168
 go_wp2
 go_ret
 exact ⟨zaa (by simp),rfl⟩
theorem zjq (a b:ByteArray) (w:World) :
   Calls Tryz.prog 143 #[.string a,.string b] w fun e w'=>e = .returned (.int .i64 (cmpS a b)) ∧ w = w':=by
 have H:=fun a w=>y21h (zoc a w)
 cases h1:Op.bytesLess a.toList b.toList
 · cases h2:(a.toList == b.toList)
   · have e:cmpS a b = 1:=by
       unfold cmpS lsB
       have:=zdd a b
       unfold lsB at this
       rcases this with h | h | h
       · rw [h1] at h;cases h
       · rw [tl_eq.2 h] at h2;cases h2
       · rw [h1,h];rfl
     rw [e]
     go_enter Tryz.func143,Tryz.ntmps143
     go_wp2_with (go_at_call 168;refine ((H _ _).out).mono ?_;rintro e w' ⟨rfl,rfl⟩)
     all_goals
       go_ret
       first | exact ⟨zb1 (by simp_all),rfl⟩ | simp_all
   · have e:cmpS a b = 0:=by
       unfold cmpS
       rw [tl_eq.1 h2,zbe];rfl
     rw [e]
     go_enter Tryz.func143,Tryz.ntmps143
     go_wp2_with (go_at_call 168;refine ((H _ _).out).mono ?_;rintro e w' ⟨rfl,rfl⟩)
     all_goals
       go_ret
       first | exact ⟨zb1 (by simp_all),rfl⟩ | simp_all
 · have e:cmpS a b = -1:=by
     unfold cmpS lsB
     rw [h1];rfl
   rw [e]
   go_enter Tryz.func143,Tryz.ntmps143
   go_wp2_with (go_at_call 168;refine ((H _ _).out).mono ?_;rintro e w' ⟨rfl,rfl⟩)
   all_goals
     go_ret
     first | exact ⟨zb1 (by simp_all),rfl⟩ | simp_all
theorem zp5 (x:Itm) (id:ByteArray) (w:World) :
   Calls Tryz.prog 159 #[iV x,.string id] w fun e w'=>e = .returned (.int .i64 (cmpS x.id id)) ∧ Below w.heap.size w w':=by
 have H:=fun a b w=>y21h (zjq a b w)
 have BEL:=y21h ((Below.refl w.heap.size w).alloc (Nat.le_refl _) (.cells (iA x) 69))
 go_enter Tryz.func159,Tryz.ntmps159
 go_wp2_with (go_at_call 143;refine ((H _ _ _).out).mono ?_;rintro e w' ⟨rfl,rfl⟩)
 go_ret
 exact ⟨rfl,BEL.out⟩
def z00 (k len:Nat) (w:World) (iv jv:Value) (wr:World):Prop :=
 ∃ i j:Nat,iv = .int .i64 i ∧ jv = .int .i64 j ∧ i ≤ k ∧ k ≤ j ∧ j ≤ len ∧ Hid (Below w.heap.size w wr)
theorem zme (l:List Itm) (id:ByteArray) (v:Value) (w:World) (hR:Row 8 ic w l v) (hr:zao l) (hl:l.length ≤ 10000) :
   Calls Tryz.prog 158 #[v,.string id,.func (.func 159) #[] #[]] w fun e w'=>e = .returned (.tuple #[.int .i64 (posI l id),.bool (hitI l id)]) ∧ Below w.heap.size w w':=by
 obtain ⟨oa,cap,b,o,rfl,hR⟩:=hR
 have HR:=y21h hR
 have HC:=fun x w=>y21h (zp5 x id w)
 have hcap:=hR.len
 have hmax:=hR.max
 unfold maxLen at hmax
 have PI:=fun (j:Nat) (i:Itm) (h:l[j]? = some i)=>y21h (zk8 (id:=id) hr h)
 have hk:=zf3 l id
 have HH:=y21h (show ∀ i,l[posI l id]? = some i → hitI l id = (i.id.toList == id.toList) from fun i hi=>by unfold hitI;rw [hi])
 have HN0:=y21h (show l[posI l id]? = none → hitI l id = false from fun hi=>by unfold hitI;rw [hi])
 clear hR hr
 generalize hn:l.length = len at *
 have HN:=y21h hn
 clear hn
 generalize posI l id = k at *
 generalize hitI l id = hit at *
 go_enter Tryz.func158,Tryz.ntmps158
 go_wp2_with fail
 go_loopw [9,10] (fun iv jv wr=>z00 k len w iv jv wr) (fun iv jv _=>(intOf jv).toNat - (intOf iv).toNat)
 case atStart=>exact ⟨0,len,rfl,rfl,Nat.zero_le _,hk,Nat.le_refl _,Below.refl _ _⟩
 case round =>
   obtain ⟨i,j,rfl,rfl,hi,hj,hjl,HB⟩:=hrel
   by_cases hlt:i < j
   · obtain ⟨x,hx⟩:∃ x,l[(i + j) / 2]? = some x:=⟨_,List.getElem?_eq_getElem (by rw [HN.out];omega)⟩
     obtain ⟨rfl,hb0⟩:=HR.out.at0 (by rw [HN.out];omega)
     obtain ⟨c0,c1,c2,c3,c4,c5,c6,c7⟩:=za0 (w:=wr) (fun q u hu=>(HB.out.cell (p:=⟨b,o + (i + j) / 2 * 8 + q,none⟩) hb0).trans (HR.out.cell _ x hx q u hu))
     have zb:=Nat.lt_of_lt_of_le hb0 HB.out.size
     have P:=PI _ _ hx
     have k1:(i:Int) < (j:Int):=by omega
     have h1:(i + j) / 2 < j:=by omega
     have h2:i ≤ (i + j) / 2:=by omega
     have e1:((i:Int) + (j:Int)) / 2 = (((i + j) / 2:Nat):Int):=by omega
     generalize (i + j) / 2 = h at *
     have q0:(0:Int) ≤ (h:Int):=by omega
     have q1:(h:Int) < (len:Int):=by omega
     cases hs:lsB x.id id
     · have g:decide (cmpS x.id id < 0) = false:=by rw [znj];exact hs
       have hle:k ≤ h:=by have:=P.out;rw [hs] at this;have:=of_decide_eq_false this.symm;omega
       clear P PI HH HN0 hs
       go_wp2_with (go_at_call 159;refine (HC _ _).out.mono ?_;rintro e w' ⟨rfl,hb⟩)
       go_roundw
       case rel=>exact ⟨i,h,rfl,rfl,hi,hle,by omega,y21h (HB.out.trans (hb.mono HB.out.size))⟩
       case measure=>simp [intOf];omega
     · have g:decide (cmpS x.id id < 0) = true:=by rw [znj];exact hs
       have hle:h < k:=by have:=P.out;rw [hs] at this;have:=of_decide_eq_true this.symm;omega
       clear P PI HH HN0 hs
       go_wp2_with (go_at_call 159;refine (HC _ _).out.mono ?_;rintro e w' ⟨rfl,hb⟩)
       go_roundw
       case rel=>exact ⟨h + 1,j,by go_num,rfl,hle,hj,hjl,y21h (HB.out.trans (hb.mono HB.out.size))⟩
       case measure=>simp [intOf];omega
   · have e:i = k:=by omega
     subst e
     have e:j = i:=by omega
     subst e
     clear hi hj
     by_cases hlt2:j < len
     · obtain ⟨x,hx⟩:∃ x,l[j]? = some x:=⟨_,List.getElem?_eq_getElem (by rw [HN.out];omega)⟩
       obtain ⟨rfl,hb0⟩:=HR.out.at0 (by rw [HN.out];omega)
       obtain ⟨c0,c1,c2,c3,c4,c5,c6,c7⟩:=za0 (w:=wr) (fun q u hu=>(HB.out.cell (p:=⟨b,o + j * 8 + q,none⟩) hb0).trans (HR.out.cell _ x hx q u hu))
       have zb:=Nat.lt_of_lt_of_le hb0 HB.out.size
       have q0:(0:Int) ≤ (j:Int):=by omega
       have q1:(j:Int) < (len:Int):=by omega
       have E:=y21h (HH.out x hx)
       clear PI HH HN0 hx
       cases hs:(x.id.toList == id.toList)
       · have g:(cmpS x.id id == 0) = false:=by
           have:=zli x.id id;rw [hs] at this
           rw [beq_eq_false_iff_ne];exact of_decide_eq_false this
         have E:=y21h (E.out.trans hs)
         go_wp2_with (go_at_call 159;refine (HC _ _).out.mono ?_;rintro e w' ⟨rfl,hb⟩)
         go_ret2
         exact ⟨by rw [E.out];rfl,HB.out.trans (hb.mono HB.out.size)⟩
       · have g:(cmpS x.id id == 0) = true:=by
           have:=zli x.id id;rw [hs] at this
           rw [beq_iff_eq];exact of_decide_eq_true this
         have E:=y21h (E.out.trans hs)
         go_wp2_with (go_at_call 159;refine (HC _ _).out.mono ?_;rintro e w' ⟨rfl,hb⟩)
         go_ret2
         exact ⟨by rw [E.out];rfl,HB.out.trans (hb.mono HB.out.size)⟩
     · have E:=y21h (HN0.out (List.getElem?_eq_none (by rw [HN.out];omega)))
       go_wp2_with fail
       go_ret2
       exact ⟨by rw [E.out];rfl,HB.out⟩
theorem zgu (l:List Itm) (id:ByteArray) (v:Value) (w:World) (hR:Row 8 ic w l v) (hr:zao l) (hl:l.length ≤ 10000) :
   Calls Tryz.prog 121 #[v,.string id] w fun e w'=>e = .returned (.tuple #[.int .i64 (posI l id),.int .i64 (toI l id)]) ∧ Below w.heap.size w w':=by
 have H:=y21h (zme l id v w hR hr hl)
 obtain ⟨oa,cap,rfl⟩:=hR.val
 have hk:=zf3 l id
 unfold toI
 clear hR hr
 generalize hitI l id = hit at *
 generalize posI l id = k at *
 cases hit
 · go_enter Tryz.func121,Tryz.ntmps121
   go_wp2_with (go_at_call 158;refine H.out.mono ?_;rintro e w' ⟨rfl,hb⟩)
   go_ret2
   exact ⟨rfl,hb⟩
 · go_enter Tryz.func121,Tryz.ntmps121
   go_wp2_with (go_at_call 158;refine H.out.mono ?_;rintro e w' ⟨rfl,hb⟩)
   go_ret2
   exact ⟨rfl,hb⟩
abbrev itV (i:It) (r c st:Int) (d:Bool):Value:=.agg #[.string i.id,.int .i64 r,.int .i64 c,.int .i64 st,.string i.kd,.int .i64 i.num,.complex .f64 i.ax i.ay,.bool d]
abbrev itC (i:It) (r c st:Int) (d:Bool):Array Value:=#[.string i.id,.int .i64 r,.int .i64 c,.int .i64 st,.string i.kd,.int .i64 i.num,.complex .f64 i.ax i.ay,.bool d]
def zji (i:It) (r c st:Int) (d:Bool) (k:Pr):Prop:=∀ (v:Value) (w:World),LP w k v →
   Calls Tryz.prog 30 #[.agg #[.int .i64 k.op,.string k.text,.int .i64 k.n,.complex .f64 k.x k.y,v],itV i r c st d] w fun e w'=>e = .returned (.bool (k.hasB i)) ∧ Below w.heap.size w w'
theorem zp4 (i:It) (r c st:Int) (d b:Bool) (k:Pr) (H:zji i r c st d k) (v:Value) (w:World) (hL:LP w k v) (bx bh:Nat) (hx:Has w bx (itC i r c st d)) (hh:Has w bh #[.bool b]) :
   Calls Tryz.prog 113 #[.agg #[.int .i64 k.op,.string k.text,.int .i64 k.n,.complex .f64 k.x k.y,v],.pointer (some ⟨bx,0,none⟩),.pointer (some ⟨bh,0,none⟩)] w fun e w'=>e = .returned (.bool (k.hasB i == b)) ∧ Below w.heap.size w w':=by
 obtain ⟨oq,cq,rfl⟩:=zal hL
 have CC:=fun dd os o=>H (.slice oq k.kids.length cq) (Sort.grow (redrawn (w.alloc o) dd) os) ((hL.atAlloc o).later (below_regrown _ _ _) (Nat.le_refl _))
 have m3:=fun dd os o=>y21h (Calls.regrown_of (CC dd os o))
 have G1:=y21h (Has.new w #[.int .i64 k.op,.string k.text,.int .i64 k.n,.complex .f64 k.x k.y,.slice oq k.kids.length cq] 40)
 have l1:=G1.out.cell
 have LA:=fun dd os o=>G1.out.regrown dd os o
 have LB:=fun dd os a o=>(hx.alloc a).regrown dd os o
 have LC:=fun dd os a o=>(hh.alloc a).regrown dd os o
 have z1:=hx.lt
 have z2:=hh.lt
 generalize Pr.hasB i k = kb at *
 clear CC hL H hx hh
 go_enter Tryz.func113,Tryz.ntmps113
 go_wp2_with fail
 refine wp_region_quiet_below (by kernel_rfl) (by kernel_rfl) ?_
 repeat (first | go_big_quiet_step ((with_reducible exact (m3 _ _ _).out)) | quiet_step (with_reducible exact (m3 _ _ _).out))
 refine wpQuiet_nil ?_
 intro w7 hw'
 have hb':=y21h (zac hw')
 clear hw' m3 LA LB LC
 go_wp2_with fail
 go_ret
 exact ⟨rfl,zaj hb'.out⟩
def z07 (P:Pr → Bool) (l:List Pr) (len:Nat) (w0:World) (i:Value) (wr:World):Prop :=
 ∃ k:Nat,k ≤ len ∧ i = .int .i64 k ∧ Hid ((l.take k).any P = false) ∧ Below w0.heap.size w0 wr
theorem zvc {P:Pr → Bool} {l:List Pr} {k:Nat} {q:Pr} (hq:l[k]? = some q) (h:(l.take k).any P = false) (hs:P q = false):(l.take (k + 1)).any P = false:=by
 rw [Pr.take_one hq,List.any_append,h];simp [hs]
theorem zx8 {P:Pr → Bool} {l:List Pr} {k:Nat} {q:Pr} (hq:l[k]? = some q) (hs:P q = true):l.any P = true:=by
 rw [List.any_eq_true];exact ⟨q,List.mem_of_getElem? hq,hs⟩
theorem zn3 (i:It) (r c st:Int) (d b:Bool) (l:List Pr) (H:∀ k ∈ l,zji i r c st d k) (oa:Option Addr) (cap:Nat) (w:World) (hL:LK w l (.slice oa l.length cap)) (bx bh:Nat) (hx:Has w bx (itC i r c st d)) (hh:Has w bh #[.bool b]) :
   Calls Tryz.prog 151 #[.slice oa l.length cap,.func (Fn.func 113) #[] #[.pointer (some ⟨bx,0,none⟩),.pointer (some ⟨bh,0,none⟩)]] w fun e w' =>
     ∃ n:Int,e = .returned (.int .i64 n) ∧ decide (0 ≤ n) = (l.any fun k=>k.hasB i == b) ∧ Below w.heap.size w w':=by
 obtain ⟨_,_,ba,o,V,e1,_,hl,hc,hn,hcell,hrec⟩:=za8 hL
 cases e1
 simp only [Pr.kids_node] at *
 unfold maxLen at hc
 have HC:=y21h hcell
 have HR:=y21h hrec
 have HN:=y21h hn
 have HH:=y21h H
 have HX:=y21h hx
 have HB2:=y21h hh
 clear hL hcell hrec hn H hx hh
 generalize hla:l.length = la at *
 have HLA:=y21h hla
 clear hla
 go_enter Tryz.func151,Tryz.ntmps151
 go_wp2_with fail
 go_loopw [8] (fun j wr=>z07 (fun k=>k.hasB i == b) l la w j wr) (fun j _=>la - (intOf j).toNat)
 case atStart=>exact ⟨0,Nat.zero_le _,rfl,by simp [Hid],Below.refl _ _⟩
 case round =>
   obtain ⟨k,hk,rfl,HS,hb⟩:=hrel
   by_cases hlt:k < la
   · obtain ⟨p,hp⟩:∃ p,l[k]? = some p:=⟨_,List.getElem?_eq_getElem (by rw [HLA.out];exact hlt)⟩
     obtain ⟨rfl,hB⟩:=HN.out (by omega)
     obtain ⟨oq,cq,hV⟩:=zal (HR.out k p hp)
     obtain ⟨c0,c1,c2,c3,c4⟩:=zcc (w:=wr) (fun j u hu=>(hb.cell (p:=⟨ba,o + k * 5 + j,none⟩) hB).trans (HC.out k p hp j u hu))
     have L0:=(HR.out k p hp).later hb (Nat.le_refl _)
     rw [hV] at c4 L0
     have CC:=zp4 i r c st d b p (HH.out p (List.mem_of_getElem? hp)) (.slice oq p.kids.length cq) wr L0 bx bh (HX.out.below hb HX.out.lt) (HB2.out.below hb HB2.out.lt)
     have HB:=y21h hb
     have HS0:=HS.out
     cases hs:(p.hasB i == b)
     · have HF:=y21h (zvc (P:=fun k=>k.hasB i == b) hp HS0 hs)
       rw [hs] at CC
       have CC:=y21h CC
       clear hb hV L0 HS0 hs hp
       go_wp2_with (go_at_call 113;refine CC.out.mono ?_;rintro e w' ⟨rfl,hb'⟩)
       go_roundw
       case rel=>exact ⟨k + 1,by omega,by go_num,HF.out,HB.out.trans (hb'.mono HB.out.size)⟩
       case measure=>simp [intOf];omega
     · have HF:=y21h (zx8 (P:=fun k=>k.hasB i == b) hp hs)
       rw [hs] at CC
       have CC:=y21h CC
       clear hb hV L0 HS0 hs hp
       go_wp2_with (go_at_call 113;refine CC.out.mono ?_;rintro e w' ⟨rfl,hb'⟩)
       go_ret
       exact ⟨_,rfl,by rw [HF.out];simp,HB.out.trans (hb'.mono HB.out.size)⟩
   · have HB:=y21h hb
     clear hb
     have e:k = la:=by omega
     have h7:=HS.out
     rw [Pr.take_all l (by rw [HLA.out];omega)] at h7
     have H7:=y21h h7
     clear h7 e
     go_wp2_with fail
     go_ret
     exact ⟨_,rfl,by rw [H7.out];simp,HB.out⟩
theorem zjs (i:It) (r c st:Int) (d b:Bool) (l:List Pr) (H:∀ k ∈ l,zji i r c st d k) (oa:Option Addr) (cap:Nat) (w:World) (hL:LK w l (.slice oa l.length cap)) (bx bh:Nat) (hx:Has w bx (itC i r c st d)) (hh:Has w bh #[.bool b]) :
   Calls Tryz.prog 112 #[.slice oa l.length cap,.func (Fn.func 113) #[] #[.pointer (some ⟨bx,0,none⟩),.pointer (some ⟨bh,0,none⟩)]] w fun e w' =>
     e = .returned (.bool (l.any fun k=>k.hasB i == b)) ∧ Below w.heap.size w w':=by
 have C:=y21h (zn3 i r c st d b l H oa cap w hL bx bh hx hh)
 clear H hL hx hh
 go_enter Tryz.func112,Tryz.ntmps112
 go_wp2_with (go_at_call 151;refine C.out.mono ?_;rintro e w' ⟨n,rfl,hn,hb⟩)
 go_ret
 exact ⟨zaa (by rw [← hn]),hb⟩
theorem zsi (i:It) (r c st:Int) (d b:Bool) (l:List Pr) (H:∀ k ∈ l,zji i r c st d k) (oa:Option Addr) (cap:Nat) (w:World) (hL:LK w l (.slice oa l.length cap)) :
   Calls Tryz.prog 66 #[.slice oa l.length cap,itV i r c st d,.bool b] w fun e w' =>
     e = .returned (.bool (l.any fun k=>k.hasB i == b)) ∧ Below w.heap.size w w':=by
 have C:=y21h (zjs i r c st d b l H oa cap ((w.alloc (.cells (itC i r c st d) 69)).alloc (.cells #[.bool b] 4)) ((hL.atAlloc _).atAlloc _) w.heap.size (w.heap.size + 1) ((Has.new w _ _).alloc _) ((Own.newAt _ _ _ (by simp)).has))
 clear H hL
 go_enter Tryz.func66,Tryz.ntmps66
 go_wp2_with (go_at_call 112;refine C.out.mono ?_;rintro e w' ⟨rfl,hb⟩)
 go_ret
 exact ⟨rfl,zaj (zaj hb)⟩
theorem zj8 (i:Itm) (w:World) :
   Calls Tryz.prog 114 #[iV i] w fun e w'=>e = .returned (.bool (mayT i)) ∧ Below w.heap.size w w' :=
 zml i.id i.r i.c i.st i.kd i.num i.x i.y i.d w
theorem zt7 {l:List Itm} (h1:∀ j a,j < l.length → l[j]? = some a → mayT a = true) (h2:∀ j a b,j + 1 < l.length → l[j]? = some a → l[j + 1]? = some b → upB a b = true):zbm l = true:=by
 unfold zbm
 rw [zsy h1,rises_iff.2 fun j a b ha hb=>h2 j a b (zbq hb) ha hb];rfl
theorem zr2 {l:List Itm} {k:Nat} {i:Itm} (hi:l[k]? = some i) (h:mayT i = false):zbm l = false:=by
 unfold zbm;rw [zq8 hi h];rfl
theorem zwa {l:List Itm} {k:Nat} {a b:Itm} (ha:l[k]? = some a) (hb:l[k + 1]? = some b) (h:upB a b = false):zbm l = false:=by
 unfold zbm;rw [zp1 ha hb h,Bool.and_false]
def zx1 (l:List Itm) (len:Nat) (w:World) (iv:Value) (wr:World):Prop :=
 ∃ k:Nat,k ≤ len ∧ iv = .int .i64 k ∧ Hid (∀ j a,j < k → l[j]? = some a → mayT a = true) ∧ Hid (∀ j a b,j + 1 < k → l[j]? = some a → l[j + 1]? = some b → upB a b = true) ∧ Hid (Below w.heap.size w wr)
theorem zg3 (l:List Itm) (v:Value) (w:World) (hR:Row 8 ic w l v) (_:l.length ≤ 1000) :
   Calls Tryz.prog 73 #[v] w fun e w'=>e = .returned (.bool (zbm l)) ∧ Below w.heap.size w w':=by
 obtain ⟨oa,cap,b,o,rfl,hr⟩:=hR
 have HR:=y21h hr
 have HM:=fun i w=>zj8 i w
 have hcap:=hr.len
 have hmax:=hr.max
 unfold maxLen at hmax
 clear hr
 generalize hn:l.length = len at *
 have HN:=y21h hn
 clear hn
 go_enter Tryz.func73,Tryz.ntmps73
 go_wp2_with fail
 go_loopw [7] (fun iv wr=>zx1 l len w iv wr) (fun iv _=>len - (intOf iv).toNat)
 case atStart=>exact ⟨0,Nat.zero_le _,rfl,fun j a hj=>absurd hj (by omega),fun j a b hj=>absurd hj (by omega),Below.refl _ _⟩
 case round =>
   obtain ⟨k,hk,rfl,HS,HU,HB⟩:=hrel
   by_cases hlt:k < len
   · obtain ⟨i,hi9⟩:∃ i,l[k]? = some i:=⟨_,List.getElem?_eq_getElem (by rw [HN.out];omega)⟩
     obtain ⟨rfl,hb0⟩:=HR.out.at0 (by rw [HN.out];omega)
     obtain ⟨c0,c1,c2,c3,c4,c5,c6,c7⟩:=za0 (w:=wr) (fun j u hu=>(HB.out.cell (p:=⟨b,o + k * 8 + j,none⟩) hb0).trans (HR.out.cell k i hi9 j u hu))
     have zb:=Nat.lt_of_lt_of_le hb0 HB.out.size
     have O:=Has.new wr (iA i) 69
     have HB1:=y21h (HB.out.alloc HB.out.size (.cells (iA i) 69))
     have r0:=fun dd os=>cell_regrown (O.cell 0) dd os
     have r1:=fun dd os=>cell_regrown (O.cell 1) dd os
     have r2:=fun dd os=>cell_regrown (O.cell 2) dd os
     have r3:=fun dd os=>cell_regrown (O.cell 3) dd os
     have r4:=fun dd os=>cell_regrown (O.cell 4) dd os
     have r5:=fun dd os=>cell_regrown (O.cell 5) dd os
     have r6:=fun dd os=>cell_regrown (O.cell 6) dd os
     have r7:=fun dd os=>cell_regrown (O.cell 7) dd os
     have m1:=fun dd os=>y21h (Calls.regrown_of (HM i (Sort.grow (redrawn (wr.alloc (.cells (iA i) 69)) dd) os)))
     have k0:(0:Int) ≤ (k:Int):=by omega
     have k1:(k:Int) < (len:Int):=by omega
     have HI:=y21h hi9
     clear hi9 O HM
     cases ht:mayT i
     · have E:=y21h (zr2 HI.out ht)
       rw [ht] at m1
       clear ht
       go_wp2_with fail
       refine wp_region_quiet_below (by kernel_rfl) (by kernel_rfl) ?_
       repeat (first | go_big_quiet_step ((with_reducible exact (m1 _ _).out)) | quiet_step ((with_reducible exact (m1 _ _).out)))
       refine wpQuiet_nil ?_
       intro w7 hw'
       have hb':=y21h (zac hw')
       clear hw'
       clear m1
       go_wp2_with fail
       go_ret
       exact ⟨zaa E.out.symm,HB1.out.trans (hb'.out.mono HB1.out.size)⟩
     · have HS2:=y21h (zsx HS.out HI.out ht)
       rw [ht] at m1
       clear ht
       by_cases hk0:k = 0
       · subst hk0
         simp only [Nat.zero_mul,Nat.add_zero] at c0 c1 c2 c3 c4 c5 c6 c7
         have HU2:=y21h (show ∀ j a b,j + 1 < 0 + 1 → l[j]? = some a → l[j + 1]? = some b → upB a b = true from fun j a b hj=>absurd hj (by omega))
         go_wp2_with fail
         refine wp_region_quiet_below (by kernel_rfl) (by kernel_rfl) ?_
         repeat (first | go_big_quiet_step ((with_reducible exact (m1 _ _).out)) | quiet_step ((with_reducible exact (m1 _ _).out)))
         refine wpQuiet_nil ?_
         intro w7 hw'
         have hb':=y21h (zac hw')
         clear hw'
         clear m1 r0 r1 r2 r3 r4 r5 r6 r7
         go_wp2_with fail
         go_roundw
         case rel=>exact ⟨0 + 1,by omega,by go_num,HS2.out,HU2.out,y21h (HB1.out.trans (hb'.out.mono HB1.out.size))⟩
         case measure=>simp [intOf];omega
       · obtain ⟨q,rfl⟩:∃ q,k = q + 1:=⟨k - 1,by omega⟩
         obtain ⟨y,hy9⟩:∃ y,l[q]? = some y:=⟨_,List.getElem?_eq_getElem (by rw [HN.out];omega)⟩
         have d0:=(za0 (w:=wr.alloc (.cells (iA i) 69)) (fun j u hu=>(HB1.out.cell (p:=⟨b,o + q * 8 + j,none⟩) hb0).trans (HR.out.cell q y hy9 j u hu))).1
         have s0:=fun dd os=>cell_regrown d0 dd os
         have p0:(0:Int) < ((q + 1:Nat):Int):=by omega
         have p1:((q + 1:Nat):Int) - 1 = (q:Int):=by omega
         have p2:(q:Int) < (len:Int):=by omega
         have p3:(0:Int) ≤ (q:Int):=by omega
         have HY:=y21h hy9
         clear d0 hy9
         cases hu:upB y i
         · have E:=y21h (zwa HY.out HI.out hu)
           have hg:Op.bytesLess y.id.toList i.id.toList = false:=by rw [zso] at hu;exact hu
           clear hu
           go_wp2_with fail
           refine wp_region_quiet_below (by kernel_rfl) (by kernel_rfl) ?_
           repeat (first | go_big_quiet_step ((with_reducible exact (m1 _ _).out)) | quiet_step ((with_reducible exact (m1 _ _).out)))
           refine wpQuiet_nil ?_
           intro w7 hw'
           have hb':=y21h (zac hw')
           clear hw'
           clear m1
           go_wp2_with fail
           go_ret
           exact ⟨zaa E.out.symm,HB1.out.trans (hb'.out.mono HB1.out.size)⟩
         · have hg:Op.bytesLess y.id.toList i.id.toList = true:=by rw [zso] at hu;exact hu
           have HU2:=y21h (show ∀ j a b,j + 1 < q + 1 + 1 → l[j]? = some a → l[j + 1]? = some b → upB a b = true from fun j a b hj ha hb=>by
             by_cases e:j = q
             · subst e;rw [HY.out] at ha;rw [HI.out] at hb;cases ha;cases hb;exact hu
             · exact HU.out j a b (by omega) ha hb)
           clear hu
           go_wp2_with fail
           refine wp_region_quiet_below (by kernel_rfl) (by kernel_rfl) ?_
           repeat (first | go_big_quiet_step ((with_reducible exact (m1 _ _).out)) | quiet_step ((with_reducible exact (m1 _ _).out)))
           refine wpQuiet_nil ?_
           intro w7 hw'
           have hb':=y21h (zac hw')
           clear hw'
           clear m1 r0 r1 r2 r3 r4 r5 r6 r7 s0
           go_wp2_with fail
           go_roundw
           case rel=>exact ⟨q + 1 + 1,by omega,by go_num,HS2.out,HU2.out,y21h (HB1.out.trans (hb'.out.mono HB1.out.size))⟩
           case measure=>simp [intOf];omega
   · have E:=y21h (zt7 (l:=l) (fun j a hj ha=>HS.out j a (by rw [HN.out] at hj;omega) ha) (fun j a b hj ha hb=>HU.out j a b (by rw [HN.out] at hj;omega) ha hb))
     go_wp2_with fail
     go_ret
     exact ⟨zaa E.out.symm,HB.out⟩
theorem zef (l:List Itm) (id:ByteArray) (v:Value) (w:World) (hR:Row 8 ic w l v) (hr:zao l) (hl:l.length ≤ 1000) (_:id.size ≤ maxLen) :
   Calls Tryz.prog 75 #[v,.string id] w fun e w'=>e = .returned (.tuple #[iV (getI l id).1,.bool (getI l id).2]) ∧ Below w.heap.size w w':=by
 have LR:=y21h (hR.alloc (.cells (iA Itm.zero) 69))
 have S:=y21h (zgu l id v _ LR.out hr (by omega))
 have OT:=y21h (Own.new w (iA Itm.zero) 69)
 have BEL:=y21h ((Below.refl w.heap.size w).alloc (Nat.le_refl _) (.cells (iA Itm.zero) 69))
 clear hR
 cases hh:hitI l id
 · have e:=ztn hr hh
   have et:toI l id = posI l id:=by unfold toI;rw [hh];rfl
   rw [e]
   rw [et] at S
   clear hr hh
   obtain ⟨oa,cap,rfl⟩:=LR.out.val
   have hk:=zf3 l id
   clear e et
   generalize posI l id = k at *
   go_enter Tryz.func75,Tryz.ntmps75
   go_wp2_with (go_at_call 121;refine S.out.mono ?_;rintro e w' ⟨rfl,hb⟩;replace OT:=y21h (OT.out.later hb);replace BEL:=y21h (BEL.out.trans (hb.mono BEL.out.size));have l1:=OT.out.cell;have f1:=OT.out.free;have z1:=OT.out.lt)
   have key:=And.intro (zbj OT.out (.string ⟨#[]⟩) (.int .i64 0) (.int .i64 0) (.int .i64 0) (.string ⟨#[]⟩) (.int .i64 0) (.complex .f64 0 0) (.bool false)) (za5 (b:=w.heap.size) BEL.out (Nat.le_refl _) (.string ⟨#[]⟩) (.int .i64 0) (.int .i64 0) (.int .i64 0) (.string ⟨#[]⟩) (.int .i64 0) (.complex .f64 0 0) (.bool false))
   unfold st8 at key
   revert key
   generalize World.setCell (World.setCell (World.setCell (World.setCell (World.setCell (World.setCell (World.setCell (World.setCell _ _ _) _ _) _ _) _ _) _ _) _ _) _ _) _ _ = WW
   rintro ⟨of,bf⟩
   exact zae (by rfl) (by rfl) (by rfl) (l:=ic Itm.zero) of.range Tryz.underlying69 (by rfl) (by kernel_rfl) rfl ⟨rfl,bf⟩
 · obtain ⟨i,hi,e⟩:=zvy hr hh
   have et:toI l id = posI l id + 1:=by unfold toI;rw [hh];rfl
   rw [e]
   rw [et] at S
   clear hr hh
   obtain ⟨oa,cap,b,o,rfl,hL⟩:=LR.out
   have hk:=zbq hi
   clear e et
   generalize posI l id = k at *
   obtain ⟨rfl,hb0⟩:=hL.at0 (by omega)
   have cs:=fun j u hu=>hL.cell k i hi j u hu
   have k0:(0:Int) ≤ (k:Int):=by omega
   have k1:(k:Int) < (l.length:Int):=by omega
   have CS:=y21h cs
   have hne:decide ((k:Int) = (k:Int) + 1) = false:=decide_eq_false (by omega)
   have hne2:((k:Int) == (k:Int) + 1) = false:=by rw [beq_eq_false_iff_ne];omega
   clear cs hL
   go_enter Tryz.func75,Tryz.ntmps75
   go_wp2_with (go_at_call 121;refine S.out.mono ?_;rintro e w' ⟨rfl,hb⟩;obtain ⟨c0,c1,c2,c3,c4,c5,c6,c7⟩:=za0 (w:=w') (fun j u hu=>(hb.cell (p:=⟨b,o + k * 8 + j,none⟩) hb0).trans (CS.out j u hu));have zb:=Nat.lt_of_lt_of_le hb0 hb.size;replace OT:=y21h (OT.out.later hb);replace BEL:=y21h (BEL.out.trans (hb.mono BEL.out.size));have l1:=OT.out.cell;have f1:=OT.out.free;have z1:=OT.out.lt)
   have key:=And.intro (zbj OT.out (.string i.id) (.int .i64 i.r) (.int .i64 i.c) (.int .i64 i.st) (.string i.kd) (.int .i64 i.num) (.complex .f64 i.x i.y) (.bool i.d)) (za5 (b:=w.heap.size) BEL.out (Nat.le_refl _) (.string i.id) (.int .i64 i.r) (.int .i64 i.c) (.int .i64 i.st) (.string i.kd) (.int .i64 i.num) (.complex .f64 i.x i.y) (.bool i.d))
   unfold st8 at key
   revert key
   generalize World.setCell (World.setCell (World.setCell (World.setCell (World.setCell (World.setCell (World.setCell (World.setCell _ _ _) _ _) _ _) _ _) _ _) _ _) _ _) _ _ = WW
   rintro ⟨of,bf⟩
   exact zae (by rfl) (by rfl) (by rfl) (l:=ic i) of.range Tryz.underlying69 (by rfl) (by kernel_rfl) rfl ⟨rfl,bf⟩
end Go.Proofs.YthnllikalobmeaaGreat
