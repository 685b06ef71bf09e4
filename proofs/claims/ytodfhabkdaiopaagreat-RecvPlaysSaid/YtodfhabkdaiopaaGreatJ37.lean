/- Joined: LocF, FreA, LocRd, RegP. -/
import Derived.Test.YtodfhabkdaiopaaGreatJ30
import Derived.Test.YtodfhabkdaiopaaGreatJ32
import Derived.Deep.RegionHeld3
import Derived.Laws.EntriesVeiled
import Derived.Test.YtodfhabkdaiopaaGreatJ26
import Derived.Lib.SliceRun
import Derived.Test.YtodfhabkdaiopaaGreatJ18
namespace Go.Proofs.YtodfhabkdaiopaaGreat
set_option linter.unusedVariables false
set_option linter.unusedSimpArgs false
set_option maxRecDepth 100000
set_option maxHeartbeats 8000000
open Go.RowKit
theorem y37h {p:Prop} (h:p):Go.RowKit.Hid p:=Lib.hid h
theorem zqs {a w:World} {row:Option Nat} (h:a.grownBy w row) {b:Nat} (hb:b < a.heap.size) (hne:some b ≠ row) (o:Nat):w.cell? ⟨b,o,none⟩=a.cell? ⟨b,o,none⟩:=World.cell?_of_block (h.block b hb hne)
theorem LPF.grown {w w':World} {B:Nat} {p:Pr} {v:Value} {b:Nat} (h:LPF w B p v) (hg:w.grownBy w' (some b)) (hb:b < B):LPF w' B p v :=
 h.mono (fun k o hS=>zqs hg hS.2 (by simp only [ne_eq,Option.some.injEq];have:=hS.1;omega) o) fun k hS=>⟨hS.1,Nat.lt_of_lt_of_le hS.2 hg.size⟩
def setL:List Value→Nat→List Value→List Value
 | xs,_,[]=>xs
 | xs,o,v :: vs=>setL (xs.set o v) (o + 1) vs
theorem zpb {base n size g cap:Nat} {e:TypeId} (vs:List Value):∀ {w:World} {xs:List Value} (o:Nat),w.ownsRow base e size (.slice (some ⟨g,0,none⟩) n cap) n xs→o + vs.length≤n * size→(w.setCells g o vs).ownsRow base e size (.slice (some ⟨g,0,none⟩) n cap) n (setL xs o vs):=by
 induction vs with
 | nil=>intro w xs o h _;exact h
 | cons v vs ih =>
   intro w xs o h hl
   simp only [List.length_cons] at hl
   exact ih (o + 1) (zl6 h v (by omega)) (by omega)
theorem zfr {α:Type} {xs:List α} {k:Nat} {x:α} (h:xs[k]?=some x):xs.set k x=xs:=by
 apply List.ext_getElem?
 intro j
 rw [List.getElem?_set]
 split
 · rename_i e
   subst e
   split
   · exact h.symm
   · rename_i hn;rw [List.getElem?_eq_none (by omega)]
 · rfl
theorem zug (V:Nat→Value) (l:List Pr):∀ (s a:Nat) (p:Pr) (v:Value),l[a]?=some p→zaz (updU V (s + a) v) s l=(zaz V s l).set (a * 5 + 4) v:=by
 induction l with
 | nil=>intro s a p v h;simp at h
 | cons q l ih =>
   intro s a p v h
   cases a with
   | zero =>
     simp at h;subst h
     rw [zaz,zaz,Nat.zero_mul,Nat.zero_add,Nat.add_zero,zck]
     rw [zg5 (V:=updU V s v) (W:=V) (s:=s + 1) (s':=s + 1) (l:=l) (fun i _=>zbt _ _ (by omega))]
     simp [pc]
   | succ a =>
     simp at h
     rw [zaz,zaz,zbt _ _ (by omega)]
     have e:(pc q (V s)).length=5:=rfl
     rw [List.set_append_right _ _ (by rw [e];omega),e,show (a + 1) * 5 + 4 - 5=a * 5 + 4 by omega,← ih (s + 1) a p v h,show s + 1 + a=s + (a + 1) by omega]
theorem zuh (V:Nat→Value) (l:List Pr) (a:Nat) (p:Pr) (v:Value) (h:l[a]?=some p):setL (zaz V 0 l) (a * 5) (pc p v)=zaz (updU V a v) 0 l:=by
 have g:=fun j (hj:j < 4)=>(zfn V 0 l a p h j (by omega))
 have e:=zug V l 0 a p v h
 rw [Nat.zero_add] at e g
 rw [e]
 rw [show setL (zaz V 0 l) (a * 5) (pc p v)=((((((zaz V 0 l).set (a * 5) (.int .i64 p.op)).set (a * 5 + 1) (.string p.text)).set (a * 5 + 1 + 1) (.int .i64 p.n)).set (a * 5 + 1 + 1 + 1) (.complex .f64 p.x p.y)).set (a * 5 + 1 + 1 + 1 + 1) v) from rfl]
 rw [zfr (k:=a * 5) (by have:=g 0 (by omega);simpa [pc] using this),zfr (k:=a * 5 + 1) (by have:=g 1 (by omega);simpa [pc] using this),zfr (k:=a * 5 + 1 + 1) (by have:=g 2 (by omega);simpa [pc] using this),zfr (k:=a * 5 + 1 + 1 + 1) (by have:=g 3 (by omega);simpa [pc] using this)]
theorem zux {w:World} {base g len c k j:Nat} {kids:List Pr} {V:Nat→Value} {q:Pr} {u:Value} (h:w.ownsRow base 32 5 (.slice (some ⟨g,0,none⟩) len c) len (zaz V 0 kids)) (hlen:kids.length=len) (hq:kids[k]?=some q) (hlt:k < len) (hu:(pc q (V k))[j]?=some u):w.cell? ⟨g,k * 5 + j,none⟩=some u:=by
 have hj:j < 5:=(List.getElem?_eq_some_iff.1 hu).1
 rw [h.cellAt (k * 5 + j) (by omega),zfn _ _ _ _ _ hq _ hj,Nat.zero_add]
 exact hu
theorem Own.far5 {w:World} {b g:Nat} {c:Array Value} {t:TypeId} (h:Own w b c t) (hne:b ≠ g) (o0 o1 o2 o3 o4:Nat) (c0 c1 c2 c3 c4:Value):Own (((((w.setCell ⟨g,o0,none⟩ c0).setCell ⟨g,o1,none⟩ c1).setCell ⟨g,o2,none⟩ c2).setCell ⟨g,o3,none⟩ c3).setCell ⟨g,o4,none⟩ c4) b c t :=
 ((((h.setFar _ _ hne).setFar _ _ hne).setFar _ _ hne).setFar _ _ hne).setFar _ _ hne
theorem LPF.setsAt {B b:Nat} {p:Pr} {v:Value} (hb:b < B) (vs:List Value):∀ {w:World} (o:Nat),LPF w B p v→LPF (w.setCells b o vs) B p v:=by
 induction vs with
 | nil=>intro w o h;exact h
 | cons u vs ih =>
   intro w o h
   exact ih (o + 1) (h.mono (fun b' o' hS=>World.cell?_setCell_other _ _ _ _ (fun e=>by have:=hS.1;have:b=b':=congrArg Addr.block e;omega)) fun _ hS=>⟨hS.1,by simpa [World.setCell] using hS.2⟩)
theorem zxa {w:World} {base base' size n:Nat} {e:TypeId} {v:Value} {xs:List Value} (h:w.ownsRow base e size v n xs) (hb:base'≤base):w.ownsRow base' e size v n xs:=by
 obtain ⟨h1,h2⟩:=h
 refine ⟨h1,?_⟩
 rcases h2 with h2 | ⟨g,cap,cur,hv,hg,r⟩
 · exact .inl h2
 · exact .inr ⟨g,cap,cur,hv,Nat.le_trans hb hg,r⟩
theorem zu1 {b:Nat} (vs:List Value):∀ {w:World} (o:Nat),(w.setCells b o vs).heap.size=w.heap.size:=by
 induction vs with
 | nil=>intro w o;rfl
 | cons v vs ih=>intro w o;exact (ih (o + 1)).trans (by simp [World.setCell])
def zzq (l:List Pr) (len:Nat) (n:Int) (w0:World) (most i:Value) (wr:World):Prop :=
 ∃ (k:Nat) (r:Int),k≤len∧i=.int .i64 k∧most=.int .i64 r∧r≤100000000∧Hid (r=n - (1 + Pr.sizes (l.take k):Nat))∧Below w0.heap.size w0 wr
theorem zna (p:Pr):∀ (v:Value) (n:Int) (w:World),LP w p v→(p.size:Int)≤n→n≤100000000 →
   Calls Tryz.prog 180 #[prV p v,.int .i64 n] w fun e w'=>e=.returned (.int .i64 (n - p.size))∧Below w.heap.size w w':=by
 induction p using Pr.ind with
 | h op t nn x y kids ih =>
   intro v n w hL h1 h2
   obtain ⟨oa,cap,b,o,V,rfl,ht,hl,hc,hn,hcell,hrec⟩:=zba hL
   simp only [prV,Pr.kids_node,Pr.text_node,Pr.op_node,Pr.n_node,Pr.x_node,Pr.y_node,Pr.size] at *
   unfold maxLen at hc
   have hpos:=Pr.len_le_sizes kids
   have HC:=y37h hcell
   have HR:=y37h hrec
   have HN:=y37h hn
   have HI:=y37h ih
   clear hL hcell hrec hn ih
   generalize hlen:kids.length=len at *
   have HLEN:=y37h hlen
   clear hlen
   go_enter Tryz.func180,Tryz.ntmps180
   go_wp2_with fail
   go_loopw [1,12] (fun most i wr=>zzq kids len n (w.alloc (.cells #[.int .i64 op,.string t,.int .i64 nn,.complex .f64 x y,.slice oa len cap] 32)) most i wr) (fun _ i _=>len - (intOf i).toNat)
   case atStart=>exact ⟨0,n - 1,Nat.zero_le _,rfl,rfl,by omega,by simp [Hid,Pr.sizes],Below.refl _ _⟩
   case round =>
     obtain ⟨k,r,hk,rfl,rfl,hr1,HRr,hb⟩:=hrel
     by_cases hlt:k < len
     · obtain ⟨q,hq⟩:∃ q,kids[k]?=some q:=⟨_,List.getElem?_eq_getElem (by rw [HLEN.out];exact hlt)⟩
       obtain ⟨rfl,hS⟩:=HN.out (by omega)
       have hbw:Below w.heap.size w wr:=((Below.refl _ _).alloc (Nat.le_refl _) _).trans (hb.mono (by simp))
       obtain ⟨oq,cq,hV⟩:=zao (HR.out k q hq)
       obtain ⟨c0,c1,c2,c3,c4⟩:=zce (w:=wr) (fun j u hu=>(hbw.cell (p:=⟨b,o + k * 5 + j,none⟩) hS).trans (HC.out k q hq j u hu))
       have L0:=HR.out k q hq
       rw [hV] at c4 L0
       have h3:=Pr.sizes_take hq
       have h4:Pr.sizes kids=Pr.sizes (kids.take (k + 1)) + Pr.sizes (kids.drop (k + 1)):=by rw [← Pr.sizes_append,List.take_append_drop]
       have h5:=HRr.out
       have h6:=Pr.size_pos q
       have hr0:0≤r:=by omega
       have g0:decide (r < 0)=false:=decide_eq_false (by omega)
       have CC:=y37h (HI.out q (List.mem_of_getElem? hq) (.slice oq q.kids.length cq) r (wr.alloc (.cells #[.int .i64 q.op,.string q.text,.int .i64 q.n,.complex .f64 q.x q.y,.slice oq q.kids.length cq] 32)) ((L0.later hbw (Nat.le_refl _)).atAlloc _) (by omega) (by omega))
       have HB:=y37h hb
       have HQ:=y37h hq
       have zb:b < wr.heap.size:=Nat.lt_of_lt_of_le hS hbw.size
       clear hb hbw hq L0 h3 h4 h5 h6 hS
       go_wp2_with (go_at_call 180;refine CC.out.mono ?_;rintro e w' ⟨rfl,hb'⟩)
       have h3:=Pr.sizes_take HQ.out
       have h5:=HRr.out
       go_roundw
       case rel=>exact ⟨k + 1,r - q.size,by omega,by go_num,rfl,by omega,by unfold Hid;rw [h3];omega,(HB.out.alloc HB.out.size _).trans (hb'.mono (Nat.le_trans HB.out.size (by simp)))⟩
       case measure=>simp [intOf];omega
     · have HB:=y37h hb
       clear hb
       have e:k=len:=by omega
       have h5:=HRr.out
       rw [Pr.take_all kids (by rw [HLEN.out];omega)] at h5
       have H5:=y37h h5
       clear h5 e
       go_wp2_with fail
       go_ret
       have h5:=H5.out
       exact ⟨zcq (by exact h5),zai HB.out⟩
structure FiS (w:World) (kids:List Pr) (X Z:Array Value) (V:Nat→Value) (rv:Value) (g k:Nat) (V':Nat→Value) (wr:World):Prop where
 x:Own wr w.heap.size X 32
 z:Own wr (w.heap.size + 1) Z 32
 row:wr.ownsRow (w.heap.size + 2) 32 5 rv kids.length (zaz V' 0 kids)
 done:∀ i q,i < k→kids[i]?=some q→LPF wr (g + 1) q (V' i)
 left:∀ i,k≤i→V' i=V i
 be:Below w.heap.size w wr
def z06 (w:World) (kids:List Pr) (len:Nat) (X Z:Array Value) (V:Nat→Value) (rv:Value) (g:Nat) (i:Value) (wr:World):Prop :=
 ∃ (k:Nat) (V':Nat→Value),k≤len∧i=.int .i64 k∧Hid (FiS w kids X Z V rv g k V' wr)
theorem FiS.step {w wr w8:World} {kids:List Pr} {X Z:Array Value} {V V':Nat→Value} {len cap g k:Nat} {q:Pr} {v8:Value} {C:Array Value} (h:FiS w kids X Z V (.slice (some ⟨g,0,none⟩) len cap) g k V' wr) (hlen:kids.length=len)
   (hg:w.heap.size + 2≤g) (hgl:g < wr.heap.size) (hq:kids[k]?=some q)
   (hL:LPF w8 (wr.alloc (.cells C 32)).heap.size q v8) (hb:Below (wr.alloc (.cells C 32)).heap.size (wr.alloc (.cells C 32)) w8) :
   FiS w kids X Z V (.slice (some ⟨g,0,none⟩) len cap) g (k + 1) (updU V' k v8) (w8.setCells g (k * 5) (pc q v8)):=by
 have hk:=zc7 hq
 have hs:wr.heap.size≤(wr.alloc (.cells C 32)).heap.size:=by simp
 have hb8:Below wr.heap.size wr w8:=((Below.refl _ _).alloc (Nat.le_refl _) _).trans (hb.mono hs)
 refine ⟨?_,?_,?_,?_,?_,?_⟩
 · exact (h.x.later hb8).setsFar _ _ (by omega)
 · exact (h.z.later hb8).setsFar _ _ (by omega)
 · rw [← zuh V' kids k q v8 hq]
   have hr:=zau h.row hb8
   subst hlen
   exact zpb _ _ hr (by simp [pc];omega)
 · intro i p hi hp
   by_cases e:i=k
   · subst e
     rw [hq] at hp;cases hp
     rw [zck]
     exact (hL.mono' (by simp;omega)).setsAt (by omega) _ _
   · rw [zbt _ _ e]
     exact ((h.done i p (by omega) hp).later hb8).setsAt (by omega) _ _
 · intro i hi
   rw [zbt _ _ (by omega)]
   exact h.left i (by omega)
 · exact zaa (by omega) _ _ (h.be.trans (hb8.mono h.be.size))
theorem zth {w w3 W2:World} {kids:List Pr} {V:Nat→Value} {o3:Option Addr} {len c3 g:Nat} {op:Int} {t:ByteArray} {nn:Int} {x y:Nat} {oa:Option Addr} {l0 cap:Nat} {Z:Array Value}
   (hx:Own w3 w.heap.size #[.int .i64 op,.string t,.int .i64 nn,.complex .f64 x y,.slice oa l0 cap] 32) (hz:Own w3 (w.heap.size + 1) Z 32) (hb:Below w.heap.size w w3)
   (hr:w3.ownsRow W2.heap.size 32 5 (.slice o3 len c3) len (zaz V 0 kids)) (hW:w.heap.size + 2≤W2.heap.size) (hlen:kids.length=len) :
   FiS w kids #[.int .i64 op,.string t,.int .i64 nn,.complex .f64 x y,.slice o3 len c3] Z V (.slice o3 len c3) g 0 V (w3.setCell ⟨w.heap.size,4,none⟩ (.slice o3 len c3)):=by
 subst hlen
 refine ⟨?_,hz.setFar _ _ (by show w.heap.size + 1 ≠ w.heap.size;omega),?_,fun i q hi=>absurd hi (by omega),fun _ _=>rfl,hb.setCell (p:=⟨w.heap.size,4,none⟩) (Nat.le_refl _) _⟩
 · simpa using hx.set 4 (.slice o3 kids.length c3)
 · exact ownsRow_setCell_below (zxa hr hW) (by show w.heap.size < w.heap.size + 2;omega) _
theorem FiS.fin {w wr:World} {kids:List Pr} {X Z:Array Value} {V V':Nat→Value} {o3:Option Addr} {len c3 g B3 B4:Nat} {op:Int} {t:ByteArray} {nn:Int} {x y:Nat} (h:FiS w kids X Z V (.slice o3 len c3) g len V' wr) (hlen:kids.length=len)
   (hg:0 < len→o3=some ⟨g,0,none⟩∧B3≤g∧g < B4) (hZ:5=Z.size) (ht:t.size≤maxLen) (h1:len≤c3) (h2:c3≤maxLen) :
   Own (wr.setCells (w.heap.size + 1) 0 (pc (.node op t nn x y kids) (.slice o3 len c3))) (w.heap.size + 1) (pc (.node op t nn x y kids) (.slice o3 len c3)).toArray 32∧LPF (wr.setCells (w.heap.size + 1) 0 (pc (.node op t nn x y kids) (.slice o3 len c3))) w.heap.size (.node op t nn x y kids) (.slice o3 len c3) ∧
     Below w.heap.size w (wr.setCells (w.heap.size + 1) 0 (pc (.node op t nn x y kids) (.slice o3 len c3))):=by
 generalize hvs:pc (.node op t nn x y kids) (.slice o3 len c3)=vs
 have hl5:vs.length=Z.size:=by rw [← hvs,← hZ];rfl
 have hsz:(wr.setCells (w.heap.size + 1) 0 vs).heap.size=wr.heap.size:=zu1 _ _
 refine ⟨h.z.sets vs hl5,?_,zaa (by omega) _ _ h.be⟩
 have hrow:=h.row
 rw [hlen] at hrow
 subst hlen
 refine .mk op t nn x y kids o3 c3 g 0 V' ht h1 h2 (fun h0=>?_) (fun i q hq j u hu=>?_) (fun i q hq=>?_)
 · obtain ⟨rfl,_,_⟩:=hg h0
   have:=hrow.lt g rfl
   exact ⟨rfl,by omega,by rw [hsz];exact this.2⟩
 · have hi:=zc7 hq
   obtain ⟨rfl,_,_⟩:=hg (by omega)
   have hlt:=hrow.lt g rfl
   rw [World.cell?_setCells_out _ _ _ _ _ (fun e _=>by simp only at e;omega),Nat.zero_add]
   exact zux hrow rfl hq hi hu
 · have hi:=zc7 hq
   obtain ⟨rfl,_,_⟩:=hg (by omega)
   have hlt:=hrow.lt g rfl
   exact ((h.done i q hi hq).setsAt (by omega) vs 0).mono' (by omega)
theorem zrd {B:Nat} {w w':World} (h:Below B w.drew w'):Below B w w':=⟨h.os,h.tape,h.output,h.size,h.block⟩
abbrev pZ:Array Value:=#[.int .i64 0,.string ⟨#[]⟩,.int .i64 0,.complex .f64 0 0,.slice none 0 0]
theorem zkp (p:Pr):∀ (v:Value) (w:World),LP w p v→p.size≤1000 →
   Calls Tryz.prog 129 #[prV p v] w fun e w'=>∃ v',e=.returned (prV p v')∧LPF w' w.heap.size p v'∧Below w.heap.size w w':=by
 induction p using Pr.ind with
 | h op t nn x y kids ih =>
   intro v w hL hs1
   obtain ⟨oa,cap,b,o,V,rfl,ht,hl,hc,hn,hcell,hrec⟩:=zba hL
   simp only [prV,Pr.kids_node,Pr.text_node,Pr.op_node,Pr.n_node,Pr.x_node,Pr.y_node,Pr.size] at *
   have h1000:=Pr.len_le_sizes kids
   have OX:=y37h ((Own.new w #[.int .i64 op,.string t,.int .i64 nn,.complex .f64 x y,.slice oa kids.length cap] 32).alloc (.cells pZ 32))
   have OZ:=y37h (Own.newAt (w.alloc (.cells #[.int .i64 op,.string t,.int .i64 nn,.complex .f64 x y,.slice oa kids.length cap] 32)) pZ 32 (b:=w.heap.size + 1) (by simp))
   have BE:=y37h (((Below.refl w.heap.size w).alloc (Nat.le_refl _) (.cells #[.int .i64 op,.string t,.int .i64 nn,.complex .f64 x y,.slice oa kids.length cap] 32)).alloc (by simp) (.cells pZ 32))
   have HC:=y37h hcell
   have HR:=y37h hrec
   have HN:=y37h hn
   have HI:=y37h ih
   have HT:=y37h ht
   have HCP:=y37h hc
   clear hL hcell hrec hn ih ht
   unfold maxLen at hc
   generalize hlen:kids.length=len at *
   have HLEN:=y37h hlen
   clear hlen
   have CLN:=fun W2 (BE:Below w.heap.size w W2)=>y37h (zny kids V oa cap b o W2 HCP.out (fun h=>⟨(HN.out (by rw [← HLEN.out];exact h)).1,Nat.lt_of_lt_of_le (HN.out (by rw [← HLEN.out];exact h)).2 BE.size⟩) (fun i p hp j u hu=>(BE.cell (p:=⟨b,o + i * 5 + j,none⟩) (HN.out (by rw [← HLEN.out];have:=zc7 hp;omega)).2).trans (HC.out i p hp j u hu)) (fun i p hp=>zas (HR.out i p hp)) (by rw [HLEN.out];omega))
   rw [HLEN.out] at CLN
   have cx:=OX.out.cell
   have fx:=OX.out.free
   have zx:=OX.out.lt
   go_enter Tryz.func129,Tryz.ntmps129
   go_upto_region 2 with (go_at_call 185;refine (CLN _ BE.out).out.mono ?_;rintro e w3 ⟨v3,rfl,hrow,hb3⟩;have hrow0:=y37h hrow;obtain ⟨o3,c3,g,rfl,r1,r2,r3⟩:=zaq hrow;clear cx fx zx hrow;have ZZ:=y37h OZ.out.lt;replace OX:=y37h (OX.out.later hb3);replace OZ:=y37h (OZ.out.later hb3);replace BE:=y37h (BE.out.trans (hb3.mono BE.out.size));have HG:=y37h r3;have cx:=OX.out.cell;have fx:=OX.out.free;have zx:=OX.out.lt;clear hb3 r3)
   unfold maxLen at r2
   have AS:=y37h (zth (V:=V) (kids:=kids) (o3:=o3) (len:=len) (c3:=c3) (g:=g) (op:=op) (t:=t) (nn:=nn) (x:=x) (y:=y) OX.out OZ.out BE.out hrow0.out ZZ.out HLEN.out)
   clear cx fx zx OX OZ BE hrow0 CLN
   revert AS
   generalize World.setCell w3 ⟨w.heap.size,4,none⟩ (.slice o3 len c3)=W4
   intro AS
   have cx:=AS.out.x.cell
   have zx:=AS.out.x.lt
   go_wp2_with fail
   go_loopw [12] (fun i wr=>z06 w kids len #[.int .i64 op,.string t,.int .i64 nn,.complex .f64 x y,.slice o3 len c3] pZ V (.slice o3 len c3) g i wr) (fun i _=>len - (intOf i).toNat)
   case atStart=>exact ⟨0,V,Nat.zero_le _,rfl,AS⟩
   case round =>
     clear AS cx zx
     obtain ⟨k,V',hk,rfl,AS⟩:=hrel
     by_cases hlt:k < len
     · obtain ⟨q,hq⟩:∃ q,kids[k]?=some q:=⟨_,List.getElem?_eq_getElem (by rw [HLEN.out];exact hlt)⟩
       obtain ⟨rfl,_,_⟩:=HG.out (by omega)
       have hrow:=AS.out.row
       rw [HLEN.out] at hrow
       have zg:w.heap.size + 2≤g∧g < wr.heap.size:=AS.out.row.lt g rfl
       obtain ⟨oq,cq,hV⟩:=zao (HR.out k q hq)
       have hVk:V' k=.slice oq q.kids.length cq:=(AS.out.left k (Nat.le_refl _)).trans hV
       obtain ⟨c0,c1,c2,c3',c4⟩:=zce (w:=wr) (q:=q) (v:=V' k) (b:=g) (o:=k * 5) (fun j u hu=>by
         have hj:j < 5:=(List.getElem?_eq_some_iff.1 hu).1
         rw [hrow.cellAt (k * 5 + j) (by omega),zfn _ _ _ _ _ hq _ hj,Nat.zero_add]
         exact hu)
       have L0:=((HR.out k q hq).later AS.out.be (Nat.le_refl _)).atAlloc (.cells #[.int .i64 q.op,.string q.text,.int .i64 q.n,.complex .f64 q.x q.y,.slice oq q.kids.length cq] 32)
       rw [hV] at L0
       rw [hVk] at c4
       have hqs:=Pr.size_mem (List.mem_of_getElem? hq)
       have CC:=y37h (HI.out q (List.mem_of_getElem? hq) (.slice oq q.kids.length cq) _ L0.atDrew (by omega))
       have HROW:=y37h hrow
       have HQ:=y37h hq
       have HVK:=y37h hVk
       have OX:=y37h (AS.out.x.alloc (.cells #[.int .i64 q.op,.string q.text,.int .i64 q.n,.complex .f64 q.x q.y,.slice oq q.kids.length cq] 32))
       have OQ:=y37h (Own.new wr #[.int .i64 q.op,.string q.text,.int .i64 q.n,.complex .f64 q.x q.y,.slice oq q.kids.length cq] 32)
       have hg1:w.heap.size ≠ g:=by omega
       have hg3:wr.heap.size ≠ g:=by omega
       have zg1:=zg.2
       clear L0 hV hVk hrow
       go_upto_region 5 with fail
       clear c0 c1 c2 c3' c4
       go_region_held3 (fun w'=>(∀ o,w'.cell? ⟨w.heap.size,o,none⟩=(#[.int .i64 op,.string t,.int .i64 nn,.complex .f64 x y,.slice (some ⟨g,0,none⟩) len c3]:Array Value)[o]?)∧(∀ o,w'.cell? ⟨wr.heap.size,o,none⟩=(#[.int .i64 q.op,.string q.text,.int .i64 q.n,.complex .f64 q.x q.y,.slice oq q.kids.length cq]:Array Value)[o]?)) (first | with_reducible exact ⟨OX8.out.cell,OQ8.out.cell⟩ | with_reducible exact ⟨(OX8.out.far5 hg1 _ _ _ _ _ _ _ _ _ _).cell,(OQ8.out.far5 hg3 _ _ _ _ _ _ _ _ _ _).cell⟩ | with_reducible exact ⟨OX.out.cell,OQ.out.cell⟩ | with_reducible exact ⟨OX.out.drew.cell,OQ.out.drew.cell⟩) (first
         | (go_simp;go_at_call 129;with_reducible refine CC.out.mono ?_;rintro e w8 ⟨v8,rfl,hL8,hb8⟩;obtain ⟨o8,c8,rfl⟩:=zao hL8.lp;have OX8:=y37h (OX.out.drew.later hb8);have OQ8:=y37h (OQ.out.drew.later hb8);have hb9:Below wr.heap.size wr w8:=(((Below.refl wr.heap.size wr).alloc (Nat.le_refl _) _).drew).trans (hb8.mono (by simp));have hrow8:=zau HROW.out hb9;have fg:=zha hrow8;have zg8:=(hrow8.lt g rfl).2;obtain ⟨e0,e1,e2,e3,e4⟩:=zce (w:=w8) (q:=q) (v:=V' k) (b:=g) (o:=k * 5) (fun j u hu=>zux hrow8 HLEN.out HQ.out hlt hu);rw [HVK.out] at e4;clear hrow8;have HL8:=y37h hL8;have HB8:=y37h hb8;clear hL8 hb8 hb9)
         | fail)
       have KEY:Hid (FiS w kids #[.int .i64 op,.string t,.int .i64 nn,.complex .f64 x y,.slice (some ⟨g,0,none⟩) len c3] pZ V (.slice (some ⟨g,0,none⟩) len c3) g (k + 1) (updU V' k (.slice o8 q.kids.length c8)) (((((w8.setCell ⟨g,k * 5,none⟩ (.int .i64 q.op)).setCell ⟨g,k * 5 + 1,none⟩ (.string q.text)).setCell ⟨g,k * 5 + 2,none⟩ (.int .i64 q.n)).setCell ⟨g,k * 5 + 3,none⟩ (.complex .f64 q.x q.y)).setCell ⟨g,k * 5 + 4,none⟩ (.slice o8 q.kids.length c8))) :=
         y37h (FiS.step AS.out HLEN.out zg.1 zg.2 HQ.out HL8.out (zrd HB8.out))
       revert KEY
       clear e0 e1 e2 e3 e4 fg zg8 OX8 OQ8 HL8 HB8 CC OX OQ AS
       generalize World.setCell (World.setCell (World.setCell (World.setCell (World.setCell _ _ _) _ _) _ _) _ _) _ _=W5
       intro KEY
       go_wp2_with fail
       go_roundw
       case rel=>exact ⟨k + 1,_,by omega,by go_num,KEY⟩
       case measure=>simp [intOf];omega
     · have e:k=len:=by omega
       subst e
       have cx:=AS.out.x.cell
       have fx:=AS.out.x.free
       have zx:=AS.out.x.lt
       have cz:=AS.out.z.cell
       have fz:=AS.out.z.free
       have zz:=AS.out.z.lt
       go_wp2_with fail
       have KEY:=y37h (FiS.fin (op:=op) (t:=t) (nn:=nn) (x:=x) (y:=y) AS.out HLEN.out HG.out (by rfl) HT.out r1 r2)
       clear cx fx zx cz fz zz AS
       have KEY2:Hid (Own (((((wr.setCell ⟨w.heap.size + 1,0,none⟩ (.int .i64 op)).setCell ⟨w.heap.size + 1,1,none⟩ (.string t)).setCell ⟨w.heap.size + 1,2,none⟩ (.int .i64 nn)).setCell ⟨w.heap.size + 1,3,none⟩ (.complex .f64 x y)).setCell ⟨w.heap.size + 1,4,none⟩ (.slice o3 k c3)) (w.heap.size + 1) #[.int .i64 op,.string t,.int .i64 nn,.complex .f64 x y,.slice o3 k c3] 32∧LPF (((((wr.setCell ⟨w.heap.size + 1,0,none⟩ (.int .i64 op)).setCell ⟨w.heap.size + 1,1,none⟩ (.string t)).setCell ⟨w.heap.size + 1,2,none⟩ (.int .i64 nn)).setCell ⟨w.heap.size + 1,3,none⟩ (.complex .f64 x y)).setCell ⟨w.heap.size + 1,4,none⟩ (.slice o3 k c3)) w.heap.size (.node op t nn x y kids) (.slice o3 k c3)∧Below w.heap.size w (((((wr.setCell ⟨w.heap.size + 1,0,none⟩ (.int .i64 op)).setCell ⟨w.heap.size + 1,1,none⟩ (.string t)).setCell ⟨w.heap.size + 1,2,none⟩ (.int .i64 nn)).setCell ⟨w.heap.size + 1,3,none⟩ (.complex .f64 x y)).setCell ⟨w.heap.size + 1,4,none⟩ (.slice o3 k c3))):=KEY
       clear KEY
       revert KEY2
       generalize World.setCell (World.setCell (World.setCell (World.setCell (World.setCell _ _ _) _ _) _ _) _ _) _ _=W5
       intro KEY
       have lf:=KEY.out.1.cell
       exact bodyPost_ret (v:=.agg #[.int .i64 op,.string t,.int .i64 nn,.complex .f64 x y,.slice o3 k c3]) (by simp [results,Tryz.results129,go_sem,lf]) rfl ⟨_,rfl,KEY.out.2.1,KEY.out.2.2⟩
structure DfS (w:World) (B:Nat) (l:List Itm) (g cap n i j:Nat) (m:List Itm) (wr:World):Prop where
 len:m.length=n
 head:m.take i=(l.take j).filter fun x=>!x.d
 tail:m.drop j=l.drop j
 lt:i < j
 own:wr.ownsRow B 58 8 (.slice (some ⟨g,0,none⟩) n cap) n (zay m)
 gr:Below B w wr
section
variable {w wr:World} {B:Nat} {l:List Itm} {g cap n i j:Nat} {m:List Itm}
theorem DfS.skip {w8:World} {x:Itm} (h:DfS w B l g cap n i j m wr) (hx:l[j]?=some x) (hd:x.d=true) (hb:Below wr.heap.size wr w8) (hB:B≤wr.heap.size):DfS w B l g cap n i (j + 1) m w8:=by
 refine ⟨h.len,?_,?_,by have:=h.lt;omega,zau h.own hb,h.gr.trans (hb.mono hB)⟩
 · rw [h.head,List.take_add_one,hx]
   simp [hd]
 · have:=congrArg (List.drop 1) h.tail
   simpa [List.drop_drop] using this
theorem DfS.fin {zs:List Value} (h:DfS w B l g cap n i n m wr) (hl:l.length=n) (hok:∀ i∈l,i.id.size≤maxLen∧i.kd.size≤maxLen) (hz:zs.length=(n - i) * 8):Row 8 ic (wr.setCells g (i * 8) zs) (l.filter fun x=>!x.d) (.slice (some ⟨g,0,none⟩) i cap)∧Below B w (wr.setCells g (i * 8) zs):=by
 have hg:=h.own.lt g rfl
 have hlt:=h.lt
 have hlen:=h.len
 have hhead:m.take i=l.filter fun x=>!x.d:=by
   have:=h.head
   rw [List.take_of_length_le (l:=l) (by omega)] at this
   exact this
 have hli:(l.filter fun x=>!x.d).length=i:=by rw [← hhead,List.length_take];omega
 have hown:=zpb zs (i * 8) h.own (by rw [hz];omega)
 obtain ⟨_,_,_,e0,hle,hmx,_⟩:=zaq h.own
 cases e0
 refine ⟨⟨_,cap,g,0,by rw [hli],⟨by omega,?_,fun _=>⟨rfl,(hown.lt g rfl).2⟩,fun k y hk a u hu=>?_,fun y hy=>hok y (List.mem_filter.1 hy).1⟩⟩,zaa hg.1 _ _ h.gr⟩
 · exact hmx
 · have hki:k < i:=by rw [← hli];exact zbo hk
   have ha:a < 8:=(List.getElem?_eq_some_iff.1 hu).1
   have e1:m[k]?=some y:=by
     rw [← hhead,List.getElem?_take,if_pos hki] at hk
     exact hk
   rw [World.cell?_setCells_out g zs (i * 8) wr ⟨g,0 + k * 8 + a,none⟩ (fun _ _=>Or.inl (by show 0 + k * 8 + a < i * 8;omega)),Nat.zero_add,h.own.cellAt (k * 8 + a) (by omega),zgs m k y e1 a ha]
   exact hu
end
end Go.Proofs.YtodfhabkdaiopaaGreat
namespace Go.Proofs.YtodfhabkdaiopaaGreat
set_option linter.unusedVariables false
set_option linter.unusedSimpArgs false
set_option maxRecDepth 100000
set_option maxHeartbeats 8000000
open Go Go.RowKit
def Sure (T:Nat→Prop) (w:World) (P:World→Prop):Prop:=∀ w',But T w w'→P w'
section
variable {T:Nat→Prop} {w w' w1:World} {P:World→Prop}
theorem Sure.now (h:Sure T w P):P w:=h w (But.refl _)
theorem But.mono {T':Nat→Prop} (h:But T' w w') (hT:∀ b,T' b→T b):But T w w':=⟨h.size,fun b hb ht=>h.blk b hb fun h'=>ht (hT b h')⟩
theorem Sure.but {T':Nat→Prop} (h:Sure T w P) (hb:But T' w w') (hT:∀ b,T' b→T b):Sure T w' P:=fun w2 h2=>h w2 ((hb.mono hT).trans h2)
theorem Sure.later (h:Sure T w P) (hb:Below w.heap.size w w'):Sure T w' P:=fun w2 h2=>h w2 ((But.of hb).trans h2)
theorem Sure.mono {T':Nat→Prop} (h:Sure T w P) (hT:∀ b,T' b→T b):Sure T' w P:=fun w2 h2=>h w2 (h2.mono hT)
theorem Sure.stored {b:Nat} (h:Sure T w P) (hs:StoreR b w w1) (hT:T b):Sure T w1 P:=h.but hs.but fun k hk=>by subst hk;exact hT
theorem Sure.imp {Q:World→Prop} (h:Sure T w P) (hi:∀ w,P w→Q w):Sure T w Q:=fun w2 h2=>hi _ (h w2 h2)
theorem Sure.fresh {b:Nat} (h:Sure T w P) (hb:Later w w1) (hge:w.heap.size≤b):Sure (fun k=>T k ∨ k=b) w1 P:=fun w2 h2 =>
 h w2 ⟨Nat.le_trans hb.size h2.size,fun k hk ht=>(h2.blk k (Nat.lt_of_lt_of_le hk hb.size) (fun e=>by rcases e with e | e;exact ht e;omega)).trans (hb.block k hk)⟩
theorem Own.stored {b b':Nat} {C:Array Value} {t:TypeId} (h:Own w b' C t) (hs:StoreR b w w1) (hne:b' ≠ b):Own w1 b' C t:=h.but hs.but hne
theorem But.cell {b o:Nat} (h:But T w w') (hb:b < w.heap.size) (hT:¬ T b):w'.cell? ⟨b,o,none⟩=w.cell? ⟨b,o,none⟩:=World.cell?_of_block (h.blk b hb hT)
theorem LPF.sure {B:Nat} {p:Pr} {v:Value} (h:LPF w B p v):Sure (fun b=>b < B) w fun w=>LP w p v:=fun w2 h2 =>
 h.mono (fun b o hS=>h2.cell hS.2 (by have:=hS.1;omega)) fun b hS=>Nat.lt_of_lt_of_le hS.2 h2.size
theorem RowF.sure {B:Nat} {l:List Itm} {v:Value} (h:RowF w B l v):Sure (fun b=>b < B) w fun w=>Row 8 ic w l v:=fun w2 h2=>by
 obtain ⟨oa,cap,b,o,e,h,hB⟩:=h
 refine ⟨oa,cap,b,o,e,h.len,h.max,fun h0=>⟨(h.at0 h0).1,Nat.lt_of_lt_of_le (h.at0 h0).2 h2.size⟩,fun k i hk j u hu=>?_,h.ok⟩
 have h0:0 < l.length:=by have:=zbo hk;omega
 rw [h2.cell (h.at0 h0).2 (by have:=hB h0;omega)]
 exact h.cell k i hk j u hu
theorem FrFresh.sure {B:Nat} {l:List Fr} {v:Value} (h:FrFresh w B l v):Sure (fun b=>b < B) w fun w=>FrW w l v:=fun w2 h2 =>
 h w2 (fun b hb hlt=>h2.blk b hlt (by omega)) h2.size
theorem Own.part {b:Nat} {C:Array Value} {t:TypeId} (h:Own w b C t) (off:Nat) (l:List Value) (e:(C.toList.drop off).take l.length=l):w.rangeAt b off l:=fun j v hv=>by
 have hj:=(List.getElem?_eq_some_iff.1 hv).1
 rw [h.cell (off + j),← Array.getElem?_toList,← hv,← List.getElem?_drop]
 conv=>rhs;rw [← e]
 rw [List.getElem?_take_of_lt hj]
end
end Go.Proofs.YtodfhabkdaiopaaGreat
