/- Joined: Zero, RefHasK, Stock, Conv. -/
import Derived.Test.YthnllikalobmeaaGreatJ16
import Derived.Deep.DeepCutAuto
import Derived.Test.YthnllikalobmeaaGreatJ10
import Derived.Test.YthnllikalobmeaaGreatJ02
import Derived.Test.YthnllikalobmeaaGreatJ14
import Derived.Test.YthnllikalobmeaaGreatJ01
import Derived.Test.YthnllikalobmeaaGreatJ17
import Derived.Deep.RegionHeld3
import Derived.Deep.RegionLaw
import Derived.Deep.DrawnRows
namespace Go.Proofs.YthnllikalobmeaaGreat
set_option linter.unusedVariables false
set_option linter.unusedSimpArgs false
set_option maxRecDepth 100000
set_option maxHeartbeats 8000000
open Go.RowKit
theorem y18h {p:Prop} (h:p):Hid p:=Lib.hid h
def zar (V:Nat → Value):Nat → List Pr → List Value
 | _,[]=>[]
 | s,p :: l=>pc p (V s) ++ zar V (s + 1) l
theorem zgw (p:Pr) (v:Value):(pc p v).length = 5:=rfl
theorem zmv (V:Nat → Value) (s:Nat) (l:List Pr):(zar V s l).length = l.length * 5:=by
 induction l generalizing s with
 | nil=>rfl
 | cons p l ih=>simp only [zar,List.length_append,ih,zgw,List.length_cons];omega
theorem zel (V:Nat → Value) (s:Nat) (l:List Pr) (i:Nat) (p:Pr) (hp:l[i]? = some p) (j:Nat) (hj:j < 5):(zar V s l)[i * 5 + j]? = (pc p (V (s + i)))[j]?:=by
 induction l generalizing s i with
 | nil=>simp at hp
 | cons q l ih =>
   cases i with
   | zero =>
     simp at hp;subst hp
     simp only [zar,Nat.zero_mul,Nat.zero_add,Nat.add_zero]
     rw [List.getElem?_append_left (by rw [zgw];exact hj)]
   | succ i =>
     simp at hp
     simp only [zar]
     rw [List.getElem?_append_right (by rw [zgw];omega),zgw,show (i + 1) * 5 + j - 5 = i * 5 + j by omega,ih (s + 1) i hp,show s + 1 + i = s + (i + 1) by omega]
theorem ztp {V:Nat → Value} {s:Nat} {l:List Pr} (h:∀ i p,l[i]? = some p → (V (s + i)).oneCell' = true):∀ u ∈ zar V s l,u.oneCell' = true:=by
 induction l generalizing s with
 | nil=>simp [zar]
 | cons p l ih =>
   intro u hu
   simp only [zar,List.mem_append] at hu
   rcases hu with hu | hu
   · exact zrs (h 0 p rfl) u hu
   · exact ih (s:=s + 1) (fun i q hq=>by have:=h (i + 1) q (by simpa using hq);rwa [show s + 1 + i = s + (i + 1) by omega]) u hu
theorem zf3 {V W:Nat → Value} {s s':Nat} {l:List Pr} (h:∀ i,i < l.length → V (s + i) = W (s' + i)):zar V s l = zar W s' l:=by
 induction l generalizing s s' with
 | nil=>rfl
 | cons p l ih =>
   simp only [zar]
   rw [show V s = W s' from h 0 (by simp),ih (fun i hi=>by have:=h (i + 1) (by simp;omega);rwa [show s + (i + 1) = s + 1 + i by omega,show s' + (i + 1) = s' + 1 + i by omega] at this)]
theorem zto (V:Nat → Value) (s:Nat) (l m:List Pr):zar V s (l ++ m) = zar V s l ++ zar V (s + l.length) m:=by
 induction l generalizing s with
 | nil=>simp [zar]
 | cons p l ih=>simp only [List.cons_append,zar,ih,List.append_assoc,List.length_cons];rw [show s + 1 + l.length = s + (l.length + 1) by omega]
def zd7 (n:Nat) (V W:Nat → Value):Nat → Value:=fun i=>if i < n then V i else W (i - n)
theorem zrm (V W:Nat → Value) (l m:List Pr):zar V 0 l ++ zar W 0 m = zar (zd7 l.length V W) 0 (l ++ m):=by
 rw [zto]
 congr 1
 · exact zf3 fun i hi=>by simp [zd7,hi]
 · refine zf3 fun i hi=>?_
   simp only [zd7,Nat.zero_add]
   rw [if_neg (by omega),show l.length + i - l.length = i by omega]
def PRow (w:World) (base:Nat) (S:Nat → Prop) (l:List Pr) (v:Value) (V:Nat → Value):Prop :=
 w.ownsRow base 40 5 v l.length (zar V 0 l) ∧ ∀ i p,l[i]? = some p → Lies 5 pc S w p (V i)
structure Rw where
 l:List Pr
 v:Value
 V:Nat → Value
def Rw.nil:Rw:=⟨[],.slice .none 0 0,fun _=>.nilFunc⟩
def Sof (w:World) (base:Nat) (R:Nat → Rw) (b:Nat):Prop:=base ≤ b ∧ b < w.heap.size ∧ ∀ i,some b ≠ (R i).v.ownBlock
structure Stock (w:World) (base:Nat) (R:Nat → Rw):Prop where
 row:∀ i,PRow w base (Sof w base R) (R i).l (R i).v (R i).V
 apart:∀ i j,i ≠ j → (R i).v.ownBlock = none ∨ (R i).v.ownBlock ≠ (R j).v.ownBlock
theorem Stock.kept {w w':World} {base:Nat} {R:Nat → Rw} (h:Stock w base R) (hb:∀ b,base ≤ b → b < w.heap.size → w'.heap[b]? = w.heap[b]?) (hs:w.heap.size ≤ w'.heap.size):Stock w' base R:=by
 refine ⟨fun i=>⟨?_,fun j p hp=>?_⟩,h.apart⟩
 · obtain ⟨h1,h2⟩:=(h.row i).1
   refine ⟨h1,?_⟩
   rcases h2 with h2 | ⟨g,cap,cur,hv,hg,hh,r⟩
   · exact .inl h2
   · have hlt:=((h.row i).1.lt g (by rw [hv];rfl)).2
     exact .inr ⟨g,cap,cur,hv,hg,by rw [hb g hg hlt];exact hh,r⟩
 · exact ((h.row i).2 j p hp).mono (fun b o hS=>World.cell?_of_block (hb b hS.1 hS.2.1)) fun b hS=>⟨hS.1,Nat.lt_of_lt_of_le hS.2.1 hs,hS.2.2⟩
theorem Stock.later {w w':World} {base:Nat} {R:Nat → Rw} (h:Stock w base R) (hb:Below w.heap.size w w'):Stock w' base R:=h.kept (fun b _ hl=>hb.block b hl) hb.size
theorem Stock.alloc {w:World} {base:Nat} {R:Nat → Rw} (h:Stock w base R) (o:Obj):Stock (w.alloc o) base R:=h.later ((Below.refl _ _).alloc (Nat.le_refl _) _)
theorem Stock.drew {w:World} {base:Nat} {R:Nat → Rw} (h:Stock w base R):Stock w.drew base R:=h.later (Below.refl _ _).drew
theorem Stock.setLow {w:World} {base:Nat} {R:Nat → Rw} (h:Stock w base R) (p:Addr) (v:Value) (hp:p.block < base):Stock (w.setCell p v) base R :=
 h.kept (fun b hb _=>Below.heap_setCell _ _ _ _ (by omega)) (by simp [World.setCell])
def upd (R:Nat → Rw) (i:Nat) (r:Rw):Nat → Rw:=fun j=>if j = i then r else R j
theorem zf8 (R:Nat → Rw) (i:Nat) (r:Rw):upd R i r i = r:=by simp [upd]
theorem zfo (R:Nat → Rw) {i j:Nat} (r:Rw) (h:j ≠ i):upd R i r j = R j:=by simp [upd,h]
theorem Stock.push {w w':World} {base:Nat} {R:Nat → Rw} (h:Stock w base R) (i:Nat) (m:List Pr) (W:Nat → Value) (hm:∀ j p,m[j]? = some p → Lies 5 pc (Sof w base R) w p (W j)) {g cap n:Nat} (hn:n = (R i).l.length + m.length)
   (hown:w'.ownsRow base 40 5 (.slice (some ⟨g,0,none⟩) n cap) n (zar (R i).V 0 (R i).l ++ zar W 0 m)) (hgrow:w.grownBy w' (R i).v.ownBlock) (hat:(R i).v.ownBlock = some g ∨ g = w.heap.size) :
   Stock w' base (upd R i ⟨(R i).l ++ m,.slice (some ⟨g,0,none⟩) n cap,zd7 (R i).l.length (R i).V W⟩):=by
 subst hn
 have hlt:∀ j k,(R j).v.ownBlock = some k → k < w.heap.size:=fun j k hk=>((h.row j).1.lt k hk).2
 have hne:∀ j,j ≠ i → (R j).v.ownBlock ≠ some g:=by
   intro j hj e
   rcases hat with h1 | h1
   · rcases h.apart j i hj with h2 | h2
     · rw [h2] at e;cases e
     · exact h2 (by rw [e,h1])
   · have:=hlt j g e;omega
 have hS:∀ b,Sof w base R b → Sof w' base (upd R i ⟨(R i).l ++ m,.slice (some ⟨g,0,none⟩) ((R i).l.length + m.length) cap,zd7 (R i).l.length (R i).V W⟩) b:=by
   intro b hb
   refine ⟨hb.1,Nat.lt_of_lt_of_le hb.2.1 hgrow.size,fun j=>?_⟩
   by_cases e:j = i
   · subst e
     rw [zf8]
     simp only [Value.ownBlock,ne_eq,Option.some.injEq]
     intro e
     rcases hat with h1 | h1
     · exact hb.2.2 j (by rw [h1,e])
     · have:=hb.2.1;omega
   · rw [zfo _ _ e];exact hb.2.2 j
 have hc:∀ b o,Sof w base R b → w'.cell? ⟨b,o,none⟩ = w.cell? ⟨b,o,none⟩:=fun b o hb=>hgrow.cell_far _ hb.2.1 (hb.2.2 i)
 refine ⟨fun j=>?_,fun j k hjk=>?_⟩
 · by_cases e:j = i
   · subst e
     rw [zf8]
     refine ⟨?_,fun a p hp=>?_⟩
     · simp only [List.length_append]
       rw [← zrm];exact hown
     · simp only at hp ⊢
       by_cases ha:a < (R j).l.length
       · rw [List.getElem?_append_left ha] at hp
         have:zd7 (R j).l.length (R j).V W a = (R j).V a:=by simp [zd7,ha]
         rw [this]
         exact ((h.row j).2 a p hp).mono hc hS
       · rw [List.getElem?_append_right (by omega)] at hp
         have:zd7 (R j).l.length (R j).V W a = W (a - (R j).l.length):=by simp [zd7,ha]
         rw [this]
         exact (hm _ p hp).mono hc hS
   · rw [zfo _ _ e]
     refine ⟨(h.row j).1.kept hgrow (h.apart j i e),fun a p hp=>((h.row j).2 a p hp).mono hc hS⟩
 · by_cases e:j = i
   · subst e
     rw [zf8,zfo _ _ (fun e=>hjk e.symm)]
     exact .inr fun e=>hne k (fun e=>hjk e.symm) (by rw [← e];rfl)
   · rw [zfo _ _ e]
     by_cases e':k = i
     · subst e'
       rw [zf8]
       exact .inr fun e2=>hne j e (by rw [e2];rfl)
     · rw [zfo _ _ e'];exact h.apart j k hjk
theorem Stock.slice {w:World} {base:Nat} {R:Nat → Rw} (h:Stock w base R) (i:Nat):∃ (oa:Option Addr) (cap g:Nat),(R i).v = .slice oa (R i).l.length cap ∧ (R i).l.length ≤ cap ∧ cap ≤ maxLen ∧ (0 < (R i).l.length → oa = some ⟨g,0,none⟩ ∧ base ≤ g ∧ g < w.heap.size):=zan (h.row i).1
theorem Stock.at {w:World} {base:Nat} {R:Nat → Rw} (h:Stock w base R) (i:Nat) {g n cap k:Nat} {p:Pr} (hv:(R i).v = .slice (some ⟨g,0,none⟩) n cap) (hp:(R i).l[k]? = some p) :
   (w.cell? ⟨g,k * 5,none⟩ = some (.int .i64 p.op) ∧ w.cell? ⟨g,k * 5 + 1,none⟩ = some (.string p.text) ∧ w.cell? ⟨g,k * 5 + 2,none⟩ = some (.int .i64 p.n) ∧ w.cell? ⟨g,k * 5 + 3,none⟩ = some (.complex .f64 p.x p.y) ∧ w.cell? ⟨g,k * 5 + 4,none⟩ = some ((R i).V k)) ∧
     Lies 5 pc (Sof w base R) w p ((R i).V k):=by
 have h1:=(h.row i).1
 have hn:n = (R i).l.length:=by
   obtain ⟨oa,cap',g',e,_⟩:=zan h1
   rw [hv] at e;cases e;rfl
 subst hn
 rw [hv] at h1
 have hk:=zb4 hp
 have c:∀ j u,(pc p ((R i).V k))[j]? = some u → w.cell? ⟨g,k * 5 + j,none⟩ = some u:=by
   intro j u hu
   have hj:j < 5:=by have:=(List.getElem?_eq_some_iff.1 hu).1;rwa [zgw] at this
   rw [h1.cellAt (k * 5 + j) (by omega),zel _ _ _ _ _ hp _ hj,Nat.zero_add,hu]
 exact ⟨⟨c 0 _ rfl,c 1 _ rfl,c 2 _ rfl,c 3 _ rfl,c 4 _ rfl⟩,(h.row i).2 k p hp⟩
theorem Stock.lies {w:World} {base B:Nat} {R:Nat → Rw} (h:Stock w base R) (i:Nat) (hB:B ≤ base) (op:Int) (t:ByteArray) (n:Int) (x y:Nat) (ht:t.size ≤ maxLen):Lies 5 pc (fun b=>B ≤ b ∧ b < w.heap.size) w (.node op t n x y (R i).l) (R i).v:=by
 obtain ⟨oa,cap,g,e,h1,h2,hg⟩:=h.slice i
 rw [e]
 refine .mk op t n x y _ oa cap g 0 (R i).V ht h1 h2 (fun hp=>⟨(hg hp).1,by have:=(hg hp).2;omega⟩) (fun k p hp j u hu=>?_) fun k p hp=>?_
 · obtain ⟨rfl,_⟩:=hg (by have:=zb4 hp;omega)
   obtain ⟨⟨a0,a1,a2,a3,a4⟩,_⟩:=h.at i e hp
   rw [Nat.zero_add]
   match j,hu with
   | 0,hu=>cases hu;exact a0
   | 1,hu=>cases hu;exact a1
   | 2,hu=>cases hu;exact a2
   | 3,hu=>cases hu;exact a3
   | 4,hu=>cases hu;exact a4
 · exact ((h.row i).2 k p hp).mono (fun _ _ _=>rfl) fun b hS=>⟨Nat.le_trans hB hS.1,hS.2.1⟩
theorem zq4:(Tryz.prog.info? 40).map (fun i=>(i.zero,i.size,i.bytes)) = some (some (.agg #[.int .i64 0,.string ⟨#[]⟩,.int .i64 0,.complex .f64 0 0,.slice none 0 0]),5,72):=by kernel_rfl
def zuq (p:Pr) (w:World) (e:Ending) (w':World):Prop :=
 ∃ v',e = .returned (.agg #[.int .i64 p.op,.string p.text,.int .i64 p.n,.complex .f64 p.x p.y,v']) ∧ Lies 5 pc (fun b=>w.heap.size ≤ b ∧ b < w'.heap.size) w' p v' ∧ Below w.heap.size w w'
def Laid (l:List Pr) (k:Nat) (xs:List Value) (V:Nat → Value):Prop:=∀ i p,i < k → l[i]? = some p → ∀ j u,(pc p (V i))[j]? = some u → xs[i * 5 + j]? = some u
def zn5 (op:Int) (t:ByteArray) (n:Int) (x y:Nat) (kids:List Pr) (len:Nat) (v:Value) (w:World) (i:Value) (wr:World):Prop :=
 ∃ (k:Nat) (sl:Value) (xs:List Value) (V:Nat → Value),k ≤ len ∧ i = .int .i64 k ∧
   Own wr w.heap.size #[.int .i64 op,.string t,.int .i64 n,.float .f64 x,.float .f64 y,v] 25 ∧
   Own wr (w.heap.size + 1) #[.int .i64 0,.string ⟨#[]⟩,.int .i64 0,.complex .f64 0 0,.slice none 0 0] 40 ∧
   Own wr (w.heap.size + 1 + 1) #[.int .i64 op,.string t,.int .i64 n,.complex .f64 x y,sl] 40 ∧
   wr.ownsRow (w.heap.size + 3) 40 5 sl k xs ∧ Laid kids k xs V ∧
   (∀ i p,i < k → kids[i]? = some p → Lies 5 pc (fun b=>w.heap.size + 3 ≤ b ∧ b < wr.heap.size ∧ some b ≠ sl.ownBlock) wr p (V i)) ∧ Below w.heap.size w wr
theorem zq9 {l:List Pr} {k:Nat} {xs:List Value} {V:Nat → Value} {q:Pr} {v2:Value} (hx:xs.length = k * 5) (h:Laid l k xs V) (hq:l[k]? = some q):Laid l (k + 1) (xs ++ pc q v2) (fun i=>if i = k then v2 else V i):=by
 intro i p hi hp j u hu
 by_cases e:i = k
 · subst e
   rw [hq] at hp;cases hp
   simp only [if_true] at hu
   rw [List.getElem?_append_right (by omega),hx,show i * 5 + j - i * 5 = j by omega]
   exact hu
 · simp only [if_neg e] at hu
   have h1:=h i p (by omega) hp j u hu
   rw [List.getElem?_append_left (List.getElem?_eq_some_iff.1 h1).1]
   exact h1
theorem zqs {op:Int} {t:ByteArray} {n:Int} {x y:Nat} {kids:List Pr} {len:Nat} {v:Value} {w wr w2 w3:World} {k g cap':Nat} {sl v2:Value} {xs:List Value} {V:Nat → Value} {q:Pr} (hk:k < len) (hq:kids[k]? = some q)
   (o1:Own wr w.heap.size #[.int .i64 op,.string t,.int .i64 n,.float .f64 x,.float .f64 y,v] 25)
   (o2:Own wr (w.heap.size + 1) #[.int .i64 0,.string ⟨#[]⟩,.int .i64 0,.complex .f64 0 0,.slice none 0 0] 40)
   (o3:Own wr (w.heap.size + 1 + 1) #[.int .i64 op,.string t,.int .i64 n,.complex .f64 x y,sl] 40)
   (hown:wr.ownsRow (w.heap.size + 3) 40 5 sl k xs) (hlaid:Laid kids k xs V)
   (hlies:∀ i p,i < k → kids[i]? = some p → Lies 5 pc (fun b=>w.heap.size + 3 ≤ b ∧ b < wr.heap.size ∧ some b ≠ sl.ownBlock) wr p (V i)) (hb:Below w.heap.size w wr)
   (hl2:Lies 5 pc (fun b=>wr.drew.heap.size ≤ b ∧ b < w2.heap.size) w2 q v2) (hb2:Below wr.drew.heap.size wr.drew w2)
   (hown3:w3.ownsRow (w.heap.size + 3) 40 5 (.slice (some ⟨g,0,none⟩) (k + 1) cap') (k + 1) (xs ++ pc q v2))
   (hgrow:(w2.alloc (.cells #[.int .i64 q.op,.string q.text,.int .i64 q.n,.complex .f64 q.x q.y,v2] 40)).grownBy w3 sl.ownBlock) (hat:sl.ownBlock = some g ∨ g = w2.heap.size + 1) :
   zn5 op t n x y kids len v w (.int .i64 (k + 1:Nat)) (w3.setCell ⟨w.heap.size + 1 + 1,4,none⟩ (.slice (some ⟨g,0,none⟩) (k + 1) cap')):=by
 have n1:=zbl hown (b:=w.heap.size) (by omega)
 have n2:=zbl hown (b:=w.heap.size + 1) (by omega)
 have n3:=zbl hown (b:=w.heap.size + 1 + 1) (by omega)
 have s2:wr.heap.size ≤ w2.heap.size:=hb2.size
 have s3:w2.heap.size + 1 ≤ w3.heap.size:=by have:=hgrow.size;simpa using this
 have hsz:∀ a u,(w3.setCell a u).heap.size = w3.heap.size:=fun a u=>by simp [World.setCell]
 have zw:=hb.size
 have b1:Below w.heap.size w (w2.alloc (.cells #[.int .i64 q.op,.string q.text,.int .i64 q.n,.complex .f64 q.x q.y,v2] 40)):=(hb.drew.trans (hb2.mono zw)).alloc (by omega) _
 have b2:Below w.heap.size w w3:=b1.grown hgrow (by simp;omega) (fun j hj=>by have:=hown.lt j hj;omega)
 have hb4:Below w.heap.size w (w3.setCell ⟨w.heap.size + 1 + 1,4,none⟩ (.slice (some ⟨g,0,none⟩) (k + 1) cap')):=b2.setCell (by show _ ≤ w.heap.size + 1 + 1;omega) _
 have hlt3:∀ j,sl.ownBlock = some j → j < wr.heap.size:=fun j hj=>(hown.lt j hj).2
 have hg:∀ b,b < w2.heap.size → some b ≠ sl.ownBlock → b ≠ g:=by
   intro b h1 h2 e
   rcases hat with h | h
   · exact h2 (by rw [e,h])
   · omega
 refine ⟨k + 1,_,xs ++ pc q v2,fun i=>if i = k then v2 else V i,hk,rfl,(((o1.drew.later hb2).alloc _).grown hgrow n1).setFar ⟨w.heap.size + 1 + 1,4,none⟩ _ (by show _ ≠ w.heap.size + 1 + 1;omega),(((o2.drew.later hb2).alloc _).grown hgrow n2).setFar ⟨w.heap.size + 1 + 1,4,none⟩ _ (by show _ ≠ w.heap.size + 1 + 1;omega),
   ?_,ownsRow_setCell_below hown3 (by simp) _,zq9 hown.1 hlaid hq,?_,hb4⟩
 · have:=(((o3.drew.later hb2).alloc _).grown hgrow n3).set 4 (.slice (some ⟨g,0,none⟩) (k + 1) cap')
   simpa using this
 · intro i p hi hp
   by_cases e:i = k
   · subst e
     rw [hq] at hp;cases hp
     simp only [if_true]
     refine hl2.mono (fun b o h=>?_) (fun b h=>?_)
     · have h1:some b ≠ sl.ownBlock:=fun e=>by have:=hlt3 b e.symm;have:wr.heap.size ≤ b:=h.1;omega
       rw [World.cell?_of_block (Below.heap_setCell _ _ _ _ (by have:wr.heap.size ≤ b:=h.1;have:=hb.size;have:=o3.lt;simp;omega))]
       rw [hgrow.cell_far _ (by have:=h.2;simp;omega) h1]
       exact World.cell?_of_block (Below.heap_alloc _ _ _ h.2)
     · have h1:some b ≠ sl.ownBlock:=fun e=>by have:=hlt3 b e.symm;have:wr.heap.size ≤ b:=h.1;omega
       have h0:wr.heap.size ≤ b:=h.1
       refine ⟨by have:=o3.lt;omega,by rw [hsz];have:=h.2;omega,?_⟩
       simp only [Value.ownBlock,ne_eq,Option.some.injEq]
       exact hg b h.2 h1
   · simp only [if_neg e]
     refine (hlies i p (by omega) hp).mono (fun b o h=>?_) (fun b h=>?_)
     · rw [World.cell?_of_block (Below.heap_setCell _ _ _ _ (by simp;omega))]
       rw [hgrow.cell_far _ (by simp;omega) h.2.2]
       rw [World.cell?_of_block (Below.heap_alloc _ _ _ (by simp;omega))]
       exact hb2.cell (p:=⟨b,o,none⟩) h.2.1
     · refine ⟨h.1,by rw [hsz];omega,?_⟩
       simp only [Value.ownBlock,ne_eq,Option.some.injEq]
       exact hg b (by omega) h.2.2
theorem zsu {op:Int} {t:ByteArray} {n:Int} {x y:Nat} {kids:List Pr} {B:Nat} {wr W:World} {cap':Nat} {oa:Option Addr} {xs:List Value} {V:Nat → Value} {k:Nat} (hk:kids.length = k) (ht:t.size ≤ maxLen)
   (hown:wr.ownsRow (B + 3) 40 5 (.slice oa k cap') k xs) (hlaid:Laid kids k xs V)
   (hlies:∀ i p,i < k → kids[i]? = some p → Lies 5 pc (fun b=>B + 3 ≤ b ∧ b < wr.heap.size ∧ some b ≠ (Value.slice oa k cap').ownBlock) wr p (V i))
   (hW:∀ b o,B + 3 ≤ b → W.cell? ⟨b,o,none⟩ = wr.cell? ⟨b,o,none⟩) (hs:W.heap.size = wr.heap.size) :
   Lies 5 pc (fun b=>B ≤ b ∧ b < W.heap.size) W (.node op t n x y kids) (.slice oa k cap'):=by
 subst hk
 obtain ⟨oa',cap2,g,e,h1,h2,hg⟩:=zan hown
 cases e
 refine .mk op t n x y kids oa cap' g 0 V ht h1 h2 (fun h=>⟨(hg h).1,by have:=(hg h).2.1;omega,by rw [hs];exact (hg h).2.2⟩) (fun i p hp j u hu=>?_) fun i p hp=>?_
 · have hi:=zb4 hp
   obtain ⟨rfl,hb,_⟩:=hg (by omega)
   have h3:=hlaid i p hi hp j u hu
   rw [hW _ _ hb,Nat.zero_add,hown.cellAt _ (by have:=(List.getElem?_eq_some_iff.1 h3).1;rw [hown.1] at this;exact this)]
   exact h3
 · exact (hlies i p (zb4 hp) hp).mono (fun b o h=>hW b o h.1) fun b h=>⟨by omega,by rw [hs];exact h.2.1⟩
theorem zh4 {wr w2 w3:World} {base:Nat} {e:TypeId} {size:Nat} {v:Value} {n:Nat} {xs:List Value} {ob:Obj} (hown:wr.ownsRow base e size v n xs) (hb2:Below wr.drew.heap.size wr.drew w2) (hgrow:(w2.alloc ob).grownBy w3 v.ownBlock) {c:Nat} (hc:c < base) (hl:c < wr.heap.size) :
   ∀ o,w3.cell? ⟨c,o,none⟩ = wr.cell? ⟨c,o,none⟩:=fun o=>by
 have h2:wr.heap.size ≤ w2.heap.size:=hb2.size
 rw [hgrow.cell_far _ (by simp;omega) (zbl hown hc),World.cell?_of_block (Below.heap_alloc _ _ _ (by show c < _;omega))]
 exact hb2.cell (p:=⟨c,o,none⟩) hl
theorem zf2 {wr w2:World} (hb2:Below wr.drew.heap.size wr.drew w2) {c:Nat} (hl:c < wr.heap.size):∀ o,w2.cell? ⟨c,o,none⟩ = wr.cell? ⟨c,o,none⟩:=fun o=>hb2.cell (p:=⟨c,o,none⟩) hl
theorem zrl {wr w2:World} (hb2:Below wr.drew.heap.size wr.drew w2) {c:Nat} (hl:c < wr.heap.size):∀ o ob,(w2.alloc ob).cell? ⟨c,o,none⟩ = wr.cell? ⟨c,o,none⟩:=fun o ob=>by
 have h2:wr.heap.size ≤ w2.heap.size:=hb2.size
 rw [World.cell?_of_block (Below.heap_alloc _ _ _ (by show c < _;omega))]
 exact zf2 hb2 hl o
attribute [local go_sem ↓] Go.wp_at_zero Go.wp_at_succ
theorem zix (p:Pr):∀ (v:Value) (w:World),LT w p v → p.size ≤ 60 →
   Calls Tryz.prog 14 #[.agg #[.int .i64 p.op,.string p.text,.int .i64 p.n,.float .f64 p.x,.float .f64 p.y,v]] w (zuq p w):=by
 induction p using Pr.ind with
 | h op t n x y kids ih =>
   intro v w hL hsz
   obtain ⟨oa,cap,b,o,V,rfl,ht,hl,hc,hn,hcell,hrec⟩:=zbh hL
   simp only [Pr.kids_node,Pr.text_node,Pr.op_node,Pr.n_node,Pr.x_node,Pr.y_node,Pr.size] at *
   unfold maxLen at hc
   have h60:=Pr.len_le_sizes kids
   have HL:=y18h hL
   have HC:=y18h hcell
   have HR:=y18h hrec
   have HN:=y18h hn
   have HI:=y18h ih
   clear hL hcell hrec hn ih
   generalize hlen:kids.length = len at *
   have HLEN:=y18h hlen
   clear hlen
   go_enter Tryz.func14,Tryz.ntmps14
   go_wp2_with fail
   go_loopw [4] (fun i wr=>zn5 op t n x y kids len (.slice oa len cap) w i wr) (fun i _=>len - (intOf i).toNat)
   case atStart =>
     exact ⟨0,.slice none 0 0,[],fun _=>.nilFunc,Nat.zero_le _,rfl,(((Own.new w _ _).alloc _).alloc _),((Own.newAt _ _ _ (by simp)).alloc _),Own.newAt _ _ _ (by simp),World.ownsRow_nil _ _ _ _,fun i p h=>absurd h (Nat.not_lt_zero _),fun i p h=>absurd h (Nat.not_lt_zero _),(((Below.refl _ _).alloc (Nat.le_refl _) _).alloc (by simp) _).alloc (by simp;omega) _⟩
   case round =>
     obtain ⟨k,sl,xs,V',hk,rfl,o1,o2,o3,hown,hlaid,hlies,hb⟩:=hrel
     by_cases hlt:k < len
     · obtain ⟨q,hq⟩:∃ q,kids[k]? = some q:=⟨_,List.getElem?_eq_getElem (by rw [HLEN.out];exact hlt)⟩
       obtain ⟨rfl,hS⟩:=HN.out (by omega)
       obtain ⟨c0,c1,c2,c3,c4,c5⟩:=zm6 (w:=wr) (fun j u hu=>(hb.cell (p:=⟨b,o + k * 6 + j,none⟩) hS).trans (HC.out k q hq j u hu))
       have hqs:=Pr.size_mem (List.mem_of_getElem? hq)
       have CC:=HI.out q (List.mem_of_getElem? hq) (V k) wr.drew ((HR.out k q hq).later hb.drew (Nat.le_refl _)) (by omega)
       have HB:=y18h hb
       have HQ:=y18h hq
       have HLA:=y18h hlaid
       have HLI:=y18h hlies
       clear hb hq hlaid hlies
       obtain ⟨i0,hi,hz0,hz1,hz2⟩:=info_parts zq4
       have l1:=o1.cell 5
       have l3:=o3.cell 4
       have z1:=o1.lt
       have z3:=o3.lt
       have zb:b < wr.heap.size:=Nat.lt_of_lt_of_le hS HB.out.size
       simp at l1 l3
       go_wp2_with fail
       go_region_law
         (first
           | (go_simp;go_at_call 14;refine CC.mono ?_;rintro e w2 ⟨v2,rfl,hl2,hb2⟩;have gb:=zf2 hb2 zb;have g1:=zf2 hb2 z1;have g3:=zf2 hb2 z3;have a3:=zrl hb2 z3)
           | ((refine step_append_lies _ (by rfl) _ _ _ (by rfl) (w.heap.size + 3) 40 i0 _ 5 72 Tryz.underlying38 hi hz0 hz1 hz2 rfl (by omega) sl k xs (by rfl) ((za8 hown.drew hb2).alloc _) ⟨w2.heap.size,0,none⟩ 1 1 (pc q v2) (by rfl) (by rfl) (World.news_of_block (cs:=#[.int .i64 q.op,.string q.text,.int .i64 q.n,.complex .f64 q.x q.y,v2]) (t:=40) (fr:=(0,0)) (heap_alloc_new w2 _)) (zrs (za2 hl2)) (by omega) (by unfold maxLen;omega) (by omega) (by have:wr.heap.size ≤ w2.heap.size:=hb2.size;simp;omega) (w2.heap.size + 1) (by simp) ?_;intro g cap' w3 hown3 hgrow hat hlt3;have fz:=(((o3.drew.later hb2).alloc _).grown hgrow (zbl hown (by omega))).free 4;have fb:=zh4 hown hb2 hgrow (c:=b) (by omega) zb;have f1:=zh4 hown hb2 hgrow (c:=w.heap.size) (by omega) z1;have f3:=zh4 hown hb2 hgrow (c:=w.heap.size + 1 + 1) (by omega) z3)))
       all_goals
         have R:=zqs (v:=.slice (some ⟨b,o,none⟩) len cap) hlt HQ.out o1 o2 o3 hown HLA.out HLI.out HB.out hl2 hb2 hown3 hgrow hat
         go_wp2_with fail
         go_roundw
         case rel=>exact R
         case measure=>simp [intOf];omega
     · have e:k = len:=by omega
       subst e
       obtain ⟨oa',cap',g,rfl,hc1,hc2,hg⟩:=zan hown
       have HB:=y18h hb
       have HLA:=y18h hlaid
       have HLI:=y18h hlies
       have HO:=y18h hown
       have HG:=y18h hg
       clear hb hlaid hlies hown hg
       have l1:=o1.cell
       have l2:=o2.cell
       have l3:=o3.cell
       have f2:=o2.free
       have z1:=o1.lt
       have z2:=o2.lt
       have z3:=o3.lt
       go_wp2_with fail
       have of:=((((o2.set 0 (.int .i64 op)).set 1 (.string t)).set 2 (.int .i64 n)).set 3 (.complex .f64 x y)).set 4 (.slice oa' k cap')
       have bf:Below w.heap.size w (((((wr.setCell ⟨w.heap.size + 1,0,none⟩ (.int .i64 op)).setCell ⟨w.heap.size + 1,1,none⟩ (.string t)).setCell ⟨w.heap.size + 1,2,none⟩ (.int .i64 n)).setCell ⟨w.heap.size + 1,3,none⟩ (.complex .f64 x y)).setCell ⟨w.heap.size + 1,4,none⟩ (.slice oa' k cap')) :=
         ((((HB.out.setCell (by show _ ≤ w.heap.size + 1;omega) _).setCell (by show _ ≤ w.heap.size + 1;omega) _).setCell (by show _ ≤ w.heap.size + 1;omega) _).setCell (by show _ ≤ w.heap.size + 1;omega) _).setCell (by show _ ≤ w.heap.size + 1;omega) _
       have hs:(((((wr.setCell ⟨w.heap.size + 1,0,none⟩ (.int .i64 op)).setCell ⟨w.heap.size + 1,1,none⟩ (.string t)).setCell ⟨w.heap.size + 1,2,none⟩ (.int .i64 n)).setCell ⟨w.heap.size + 1,3,none⟩ (.complex .f64 x y)).setCell ⟨w.heap.size + 1,4,none⟩ (.slice oa' k cap')).heap.size = wr.heap.size:=by simp [World.setCell]
       have hW:∀ b o,w.heap.size + 3 ≤ b → (((((wr.setCell ⟨w.heap.size + 1,0,none⟩ (.int .i64 op)).setCell ⟨w.heap.size + 1,1,none⟩ (.string t)).setCell ⟨w.heap.size + 1,2,none⟩ (.int .i64 n)).setCell ⟨w.heap.size + 1,3,none⟩ (.complex .f64 x y)).setCell ⟨w.heap.size + 1,4,none⟩ (.slice oa' k cap')).cell? ⟨b,o,none⟩ = wr.cell? ⟨b,o,none⟩:=fun b o h=>by
         have h1:b ≠ w.heap.size + 1:=by omega
         refine World.cell?_of_block ?_
         rw [Below.heap_setCell _ _ _ _ h1,Below.heap_setCell _ _ _ _ h1,Below.heap_setCell _ _ _ _ h1,Below.heap_setCell _ _ _ _ h1,Below.heap_setCell _ _ _ _ h1]
       have HE:=y18h (zsu (op:=op) (n:=n) (x:=x) (y:=y) HLEN.out ht HO.out HLA.out HLI.out hW hs)
       clear hW hs l1 l2 l3 f2 z1 z2 z3
       revert of bf HE
       generalize ((((wr.setCell ⟨w.heap.size + 1,0,none⟩ (.int .i64 op)).setCell ⟨w.heap.size + 1,1,none⟩ (.string t)).setCell ⟨w.heap.size + 1,2,none⟩ (.int .i64 n)).setCell ⟨w.heap.size + 1,3,none⟩ (.complex .f64 x y)).setCell ⟨w.heap.size + 1,4,none⟩ (.slice oa' k cap') = W
       intro of bf HE
       have lf:=of.cell
       refine bodyPost_ret (v:=.agg #[.int .i64 op,.string t,.int .i64 n,.complex .f64 x y,.slice oa' k cap']) (by simp [results,Tryz.results14,go_sem,lf]) rfl ⟨_,rfl,HE.out,bf⟩
end Go.Proofs.YthnllikalobmeaaGreat
