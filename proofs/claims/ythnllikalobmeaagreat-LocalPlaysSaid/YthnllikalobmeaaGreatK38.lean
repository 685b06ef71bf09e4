/- Joined: LocF, LocF2, LocRd, LocG. -/
import Derived.Test.YthnllikalobmeaaGreatK30
import Derived.Test.YthnllikalobmeaaGreatK33
import Derived.Deep.RegionHeld3
import Derived.Laws.EntriesVeiled
import Derived.Test.YthnllikalobmeaaGreatK27
import Derived.Lib.SliceRun
import Derived.Test.YthnllikalobmeaaGreatK19
import Derived.Test.YthnllikalobmeaaGreatK36
namespace Go.Proofs.YthnllikalobmeaaGreat
set_option linter.unusedVariables false
set_option linter.unusedSimpArgs false
set_option maxRecDepth 100000
set_option maxHeartbeats 8000000
open Go.RowKit
abbrev y38a:=@List.getElem_toArray
abbrev y38b:=@List.getElem_cons_zero
abbrev y38c:=@List.getElem_cons_succ
abbrev y38d:=@List.setIfInBounds_toArray
abbrev y38e:=@List.set_cons_zero
abbrev y38f:=@List.set_cons_succ
theorem y38h {p:Prop} (h:p):Hid p:=Lib.hid h
theorem zgk {a w w':World} {row:Option Nat} (h:a.grownBy w row) (k:w.grownBy w' row):a.grownBy w' row :=
 ⟨k.os.trans h.os,k.tape.trans h.tape,k.output.trans h.output,Nat.le_trans h.size k.size,fun b hb hne=>(k.block b (Nat.lt_of_lt_of_le hb h.size) hne).trans (h.block b hb hne)⟩
theorem zvz {a w w':World} {row:Option Nat} {B:Nat} (h:a.grownBy w row) (hb:Below B w w') (hB:a.heap.size ≤ B):a.grownBy w' row :=
 ⟨hb.os.trans h.os,hb.tape.trans h.tape,hb.output.trans h.output,Nat.le_trans h.size hb.size,fun b hlt hne=>(hb.block b (Nat.lt_of_lt_of_le hlt hB)).trans (h.block b hlt hne)⟩
theorem zql {a w w':World} {row:Option Nat} (h:a.grownBy w none) (k:w.grownBy w' row):a.grownBy w' row :=
 ⟨k.os.trans h.os,k.tape.trans h.tape,k.output.trans h.output,Nat.le_trans h.size k.size,fun b hb hne=>(k.block b (Nat.lt_of_lt_of_le hb h.size) hne).trans (h.block b hb (by simp))⟩
theorem zz6 {w:World} {b o:Nat} (v:Value):w.grownBy (w.setCell ⟨b,o,none⟩ v) (some b) :=
 ⟨rfl,rfl,rfl,by simp [World.setCell],fun k hk hne=>Below.heap_setCell _ _ _ _ (fun e=>hne (by rw [e]))⟩
theorem zky {a:World} {row:Option Nat} {b:Nat} (hb:a.heap.size ≤ b) (vs:List Value):∀ {w:World} (o:Nat),a.grownBy w row → a.grownBy (w.setCells b o vs) row:=by
 induction vs with
 | nil=>intro w o h;exact h
 | cons v vs ih =>
   intro w o h
   refine ih (o + 1) ⟨h.os,h.tape,h.output,by simpa [World.setCell] using h.size,fun k hk hne=>?_⟩
   rw [Below.heap_setCell _ _ _ _ (by simp only [ne_eq];omega)]
   exact h.block k hk hne
theorem zib {a w:World} {row:Option Nat} (h:a.grownBy w row) {b:Nat} (hb:b < a.heap.size) (hne:some b ≠ row) (o:Nat):w.cell? ⟨b,o,none⟩ = a.cell? ⟨b,o,none⟩:=World.cell?_of_block (h.block b hb hne)
theorem zpj {B:Nat} {w w':World} {b:Nat} (h:w.grownBy w' (some b)) (hb:B ≤ b) (hB:B ≤ w.heap.size):Below B w w' :=
 (Below.refl B w).grown h hB (fun k hk=>by cases hk;exact hb)
theorem LPF.grown {w w':World} {B:Nat} {p:Pr} {v:Value} {b:Nat} (h:LPF w B p v) (hg:w.grownBy w' (some b)) (hb:b < B):LPF w' B p v :=
 h.mono (fun k o hS=>zib hg hS.2 (by simp only [ne_eq,Option.some.injEq];have:=hS.1;omega) o) fun k hS=>⟨hS.1,Nat.lt_of_lt_of_le hS.2 hg.size⟩
def setL:List Value → Nat → List Value → List Value
 | xs,_,[]=>xs
 | xs,o,v :: vs=>setL (xs.set o v) (o + 1) vs
theorem zjd {base n size g cap:Nat} {e:TypeId} (vs:List Value):∀ {w:World} {xs:List Value} (o:Nat),w.ownsRow base e size (.slice (some ⟨g,0,none⟩) n cap) n xs → o + vs.length ≤ n * size → (w.setCells g o vs).ownsRow base e size (.slice (some ⟨g,0,none⟩) n cap) n (setL xs o vs):=by
 induction vs with
 | nil=>intro w xs o h _;exact h
 | cons v vs ih =>
   intro w xs o h hl
   simp only [List.length_cons] at hl
   exact ih (o + 1) (zlf h v (by omega)) (by omega)
theorem ze8 {α:Type} {xs:List α} {k:Nat} {x:α} (h:xs[k]? = some x):xs.set k x = xs:=by
 apply List.ext_getElem?
 intro j
 rw [List.getElem?_set]
 split
 · rename_i e
   subst e
   split
   · exact h.symm
   · rename_i hn;rw [List.getElem?_eq_none (by omega)]
 · rfl
theorem zuc (V:Nat → Value) (l:List Pr):∀ (s a:Nat) (p:Pr) (v:Value),l[a]? = some p → zax (updU V (s + a) v) s l = (zax V s l).set (a * 5 + 4) v:=by
 induction l with
 | nil=>intro s a p v h;simp at h
 | cons q l ih =>
   intro s a p v h
   cases a with
   | zero =>
     simp at h;subst h
     rw [zax,zax,Nat.zero_mul,Nat.zero_add,Nat.add_zero,zcb]
     rw [zgp (V:=updU V s v) (W:=V) (s:=s + 1) (s':=s + 1) (l:=l) (fun i _=>zbl _ _ (by omega))]
     simp [pc]
   | succ a =>
     simp at h
     rw [zax,zax,zbl _ _ (by omega)]
     have e:(pc q (V s)).length = 5:=rfl
     rw [List.set_append_right _ _ (by rw [e];omega),e,show (a + 1) * 5 + 4 - 5 = a * 5 + 4 by omega,← ih (s + 1) a p v h,show s + 1 + a = s + (a + 1) by omega]
theorem zud (V:Nat → Value) (l:List Pr) (a:Nat) (p:Pr) (v:Value) (h:l[a]? = some p):setL (zax V 0 l) (a * 5) (pc p v) = zax (updU V a v) 0 l:=by
 have g:=fun j (hj:j < 4)=>(ze4 V 0 l a p h j (by omega))
 have e:=zuc V l 0 a p v h
 rw [Nat.zero_add] at e g
 rw [e]
 rw [show setL (zax V 0 l) (a * 5) (pc p v) = ((((((zax V 0 l).set (a * 5) (.int .i64 p.op)).set (a * 5 + 1) (.string p.text)).set (a * 5 + 1 + 1) (.int .i64 p.n)).set (a * 5 + 1 + 1 + 1) (.complex .f64 p.x p.y)).set (a * 5 + 1 + 1 + 1 + 1) v) from rfl]
 rw [ze8 (k:=a * 5) (by have:=g 0 (by omega);simpa [pc] using this),ze8 (k:=a * 5 + 1) (by have:=g 1 (by omega);simpa [pc] using this),ze8 (k:=a * 5 + 1 + 1) (by have:=g 2 (by omega);simpa [pc] using this),ze8 (k:=a * 5 + 1 + 1 + 1) (by have:=g 3 (by omega);simpa [pc] using this)]
structure An (w:World) (bl ba:Nat) (n:Int):Prop where
 l:Own w bl #[.int .i64 n] 3
 a:Own w ba #[.func (Fn.func 95) #[] #[.pointer (some ⟨bl,0,none⟩),.pointer (some ⟨ba,0,none⟩)]] 89
theorem An.ne {w:World} {bl ba:Nat} {n:Int} (h:An w bl ba n):bl ≠ ba:=by
 intro e
 subst e
 have h1:=h.l.blk
 rw [h.a.blk] at h1
 simp at h1
theorem An.later {w w':World} {bl ba:Nat} {n:Int} (h:An w bl ba n) (hb:Below w.heap.size w w'):An w' bl ba n:=⟨h.l.later hb,h.a.later hb⟩
theorem An.alloc {w:World} {bl ba:Nat} {n:Int} (h:An w bl ba n) (o:Obj):An (w.alloc o) bl ba n:=⟨h.l.alloc o,h.a.alloc o⟩
theorem An.drew {w:World} {bl ba:Nat} {n:Int} (h:An w bl ba n):An w.drew bl ba n:=⟨h.l.drew,h.a.drew⟩
theorem Own.grownD {w w':World} {b r:Nat} {c:Array Value} {t:TypeId} (h:Own w b c t) (hg:w.drew.grownBy w' (some r)) (hne:b ≠ r):Own w' b c t:=h.drew.grown hg (by simpa using hne)
theorem zlr {w w':World} {r:Option Nat} (hg:w.drew.grownBy w' r):w.grownBy w' r:=⟨hg.os,hg.tape,hg.output,hg.size,hg.block⟩
theorem zuv {w:World} {base g len c k j:Nat} {kids:List Pr} {V:Nat → Value} {q:Pr} {u:Value} (h:w.ownsRow base 40 5 (.slice (some ⟨g,0,none⟩) len c) len (zax V 0 kids)) (hlen:kids.length = len) (hq:kids[k]? = some q) (hlt:k < len) (hu:(pc q (V k))[j]? = some u):w.cell? ⟨g,k * 5 + j,none⟩ = some u:=by
 have hj:j < 5:=(List.getElem?_eq_some_iff.1 hu).1
 rw [h.cellAt (k * 5 + j) (by omega),ze4 _ _ _ _ _ hq _ hj,Nat.zero_add]
 exact hu
theorem Own.far5 {w:World} {b g:Nat} {c:Array Value} {t:TypeId} (h:Own w b c t) (hne:b ≠ g) (o0 o1 o2 o3 o4:Nat) (c0 c1 c2 c3 c4:Value):Own (((((w.setCell ⟨g,o0,none⟩ c0).setCell ⟨g,o1,none⟩ c1).setCell ⟨g,o2,none⟩ c2).setCell ⟨g,o3,none⟩ c3).setCell ⟨g,o4,none⟩ c4) b c t :=
 ((((h.setFar _ _ hne).setFar _ _ hne).setFar _ _ hne).setFar _ _ hne).setFar _ _ hne
theorem An.set {w:World} {bl ba:Nat} {n:Int} (h:An w bl ba n) (m:Int):An (w.setCell ⟨bl,0,none⟩ (.int .i64 m)) bl ba m :=
 ⟨by simpa using h.l.set 0 (.int .i64 m),h.a.setFar _ _ (fun e=>h.ne e.symm)⟩
theorem LPF.setsAt {B b:Nat} {p:Pr} {v:Value} (hb:b < B) (vs:List Value):∀ {w:World} (o:Nat),LPF w B p v → LPF (w.setCells b o vs) B p v:=by
 induction vs with
 | nil=>intro w o h;exact h
 | cons u vs ih =>
   intro w o h
   exact ih (o + 1) (h.mono (fun b' o' hS=>World.cell?_setCell_other _ _ _ _ (fun e=>by have:=hS.1;have:b = b':=congrArg Addr.block e;omega)) fun _ hS=>⟨hS.1,by simpa [World.setCell] using hS.2⟩)
def zm7 (p:Pr) (bl ba:Nat) (n:Int) (w:World) (e:Ending) (w':World):Prop :=
 ∃ v',e = .returned (prV p v') ∧ LPF w' w.heap.size p v' ∧ w.grownBy w' (some bl) ∧ An w' bl ba (n + 1 - p.size)
structure AnS (w:World) (kids:List Pr) (bl ba:Nat) (n:Int) (X Z:Array Value) (V:Nat → Value) (rv:Value) (g k:Nat) (V':Nat → Value) (wr:World):Prop where
 x:Own wr w.heap.size X 40
 z:Own wr (w.heap.size + 1) Z 40
 row:wr.ownsRow (w.heap.size + 2) 40 5 rv kids.length (zax V' 0 kids)
 done:∀ i q,i < k → kids[i]? = some q → LPF wr (g + 1) q (V' i)
 left:∀ i,k ≤ i → V' i = V i
 an:An wr bl ba (n - kids.length + k - Pr.sizes (kids.take k))
 gr:w.grownBy wr (some bl)
def z0x (w:World) (kids:List Pr) (len:Nat) (bl ba:Nat) (n:Int) (X Z:Array Value) (V:Nat → Value) (rv:Value) (g:Nat) (i:Value) (wr:World):Prop :=
 ∃ (k:Nat) (V':Nat → Value),k ≤ len ∧ i = .int .i64 k ∧ Hid (AnS w kids bl ba n X Z V rv g k V' wr)
theorem AnS.step {w wr w8:World} {kids:List Pr} {bl ba:Nat} {n:Int} {X Z:Array Value} {V V':Nat → Value} {len cap g k:Nat} {q:Pr} {v8:Value} {C:Array Value} (h:AnS w kids bl ba n X Z V (.slice (some ⟨g,0,none⟩) len cap) g k V' wr) (hlen:kids.length = len)
   (hbl:bl < w.heap.size) (hba:ba < w.heap.size) (hg:w.heap.size + 2 ≤ g) (hgl:g < wr.heap.size) (hq:kids[k]? = some q)
   (hL:LPF w8 (wr.alloc (.cells C 40)).heap.size q v8) (hgr:(wr.alloc (.cells C 40)).grownBy w8 (some bl)) (han:An w8 bl ba (n - kids.length + k - Pr.sizes (kids.take k) + 1 - q.size)) :
   AnS w kids bl ba n X Z V (.slice (some ⟨g,0,none⟩) len cap) g (k + 1) (updU V' k v8) (w8.setCells g (k * 5) (pc q v8)):=by
 have hk:=zcm hq
 have hw8:wr.grownBy w8 (some bl):=zql (World.grownBy_alloc wr _ none) hgr
 have hs:wr.heap.size ≤ (wr.alloc (.cells C 40)).heap.size:=by simp
 refine ⟨?_,?_,?_,?_,?_,?_,?_⟩
 · exact ((h.x.grown hw8 (by simp;omega))).setsFar _ _ (by omega)
 · exact ((h.z.grown hw8 (by simp;omega))).setsFar _ _ (by omega)
 · rw [← zud V' kids k q v8 hq]
   have hr:=h.row.kept hw8 (.inr (by simp [Value.ownBlock];omega))
   subst hlen
   exact zjd _ _ hr (by simp [pc];omega)
 · intro i p hi hp
   by_cases e:i = k
   · subst e
     rw [hq] at hp;cases hp
     rw [zcb]
     exact (hL.mono' (by simp;omega)).setsAt (by omega) _ _
   · rw [zbl _ _ e]
     exact ((h.done i p (by omega) hp).grown hw8 (by omega)).setsAt (by omega) _ _
 · intro i hi
   rw [zbl _ _ (by omega)]
   exact h.left i (by omega)
 · have e:=Pr.sizes_take hq
   have e2:n - kids.length + ((k + 1:Nat):Int) - ((Pr.sizes (kids.take (k + 1)):Nat):Int) = n - kids.length + k - Pr.sizes (kids.take k) + 1 - q.size:=by rw [e];omega
   rw [e2]
   exact ⟨han.l.setsFar _ _ (by omega),han.a.setsFar _ _ (by omega)⟩
 · exact zky (by omega) _ _ (zgk h.gr hw8)
theorem ztp {a w:World} {row:Option Nat} {b o:Nat} (hb:a.heap.size ≤ b) (v:Value) (h:a.grownBy w row):a.grownBy (w.setCell ⟨b,o,none⟩ v) row:=zky hb [v] o h
theorem An.setFar {w:World} {bl ba:Nat} {n:Int} (h:An w bl ba n) {b o:Nat} (v:Value) (h1:bl ≠ b) (h2:ba ≠ b):An (w.setCell ⟨b,o,none⟩ v) bl ba n:=⟨h.l.setFar _ _ h1,h.a.setFar _ _ h2⟩
theorem zw3 {w:World} {base base' size n:Nat} {e:TypeId} {v:Value} {xs:List Value} (h:w.ownsRow base e size v n xs) (hb:base' ≤ base):w.ownsRow base' e size v n xs:=by
 obtain ⟨h1,h2⟩:=h
 refine ⟨h1,?_⟩
 rcases h2 with h2 | ⟨g,cap,cur,hv,hg,r⟩
 · exact .inl h2
 · exact .inr ⟨g,cap,cur,hv,Nat.le_trans hb hg,r⟩
theorem zsz {w w3 W2:World} {kids:List Pr} {bl ba:Nat} {n:Int} {V:Nat → Value} {o3:Option Addr} {len c3 g:Nat} {op:Int} {t:ByteArray} {nn:Int} {x y:Nat} {oa:Option Addr} {l0 cap:Nat} {Z:Array Value}
   (hx:Own w3 w.heap.size #[.int .i64 op,.string t,.int .i64 nn,.complex .f64 x y,.slice oa l0 cap] 40) (hz:Own w3 (w.heap.size + 1) Z 40) (ha:An w3 bl ba (n - len)) (hg:w.grownBy w3 (some bl))
   (hr:w3.ownsRow W2.heap.size 40 5 (.slice o3 len c3) len (zax V 0 kids)) (hW:w.heap.size + 2 ≤ W2.heap.size) (hlen:kids.length = len) (zl:bl < w.heap.size) (za:ba < w.heap.size) :
   AnS w kids bl ba n #[.int .i64 op,.string t,.int .i64 nn,.complex .f64 x y,.slice o3 len c3] Z V (.slice o3 len c3) g 0 V (w3.setCell ⟨w.heap.size,4,none⟩ (.slice o3 len c3)):=by
 subst hlen
 refine ⟨?_,hz.setFar _ _ (by show w.heap.size + 1 ≠ w.heap.size;omega),?_,fun i q hi=>absurd hi (by omega),fun _ _=>rfl,?_,ztp (Nat.le_refl _) _ hg⟩
 · simpa using hx.set 4 (.slice o3 kids.length c3)
 · exact ownsRow_setCell_below (zw3 hr hW) (by show w.heap.size < w.heap.size + 2;omega) _
 · have e:n - (kids.length:Int) + ((0:Nat):Int) - ((Pr.sizes (kids.take 0):Nat):Int) = n - kids.length:=by simp [Pr.sizes]
   rw [e]
   exact ha.setFar _ (by omega) (by omega)
theorem zuy {b:Nat} (vs:List Value):∀ {w:World} (o:Nat),(w.setCells b o vs).heap.size = w.heap.size:=by
 induction vs with
 | nil=>intro w o;rfl
 | cons v vs ih=>intro w o;exact (ih (o + 1)).trans (by simp [World.setCell])
theorem AnS.fin {w wr:World} {kids:List Pr} {bl ba:Nat} {n:Int} {X Z:Array Value} {V V':Nat → Value} {o3:Option Addr} {len c3 g B3 B4:Nat} {op:Int} {t:ByteArray} {nn:Int} {x y:Nat} (h:AnS w kids bl ba n X Z V (.slice o3 len c3) g len V' wr) (hlen:kids.length = len)
   (hg:0 < len → o3 = some ⟨g,0,none⟩ ∧ B3 ≤ g ∧ g < B4) (hZ:5 = Z.size) (zl:bl < w.heap.size) (za:ba < w.heap.size) (ht:t.size ≤ maxLen) (h1:len ≤ c3) (h2:c3 ≤ maxLen) :
   Own (wr.setCells (w.heap.size + 1) 0 (pc (.node op t nn x y kids) (.slice o3 len c3))) (w.heap.size + 1) (pc (.node op t nn x y kids) (.slice o3 len c3)).toArray 40 ∧ LPF (wr.setCells (w.heap.size + 1) 0 (pc (.node op t nn x y kids) (.slice o3 len c3))) w.heap.size (.node op t nn x y kids) (.slice o3 len c3) ∧
     w.grownBy (wr.setCells (w.heap.size + 1) 0 (pc (.node op t nn x y kids) (.slice o3 len c3))) (some bl) ∧ An (wr.setCells (w.heap.size + 1) 0 (pc (.node op t nn x y kids) (.slice o3 len c3))) bl ba (n + 1 - (Pr.node op t nn x y kids).size):=by
 generalize hvs:pc (.node op t nn x y kids) (.slice o3 len c3) = vs
 have hl5:vs.length = Z.size:=by rw [← hvs,← hZ];rfl
 have hgr:=zky (b:=w.heap.size + 1) (by omega) vs 0 h.gr
 have hsz:(wr.setCells (w.heap.size + 1) 0 vs).heap.size = wr.heap.size:=zuy _ _
 refine ⟨h.z.sets vs hl5,?_,hgr,?_⟩
 · have hrow:=h.row
   rw [hlen] at hrow
   subst hlen
   refine .mk op t nn x y kids o3 c3 g 0 V' ht h1 h2 (fun h0=>?_) (fun i q hq j u hu=>?_) (fun i q hq=>?_)
   · obtain ⟨rfl,_,_⟩:=hg h0
     have:=hrow.lt g rfl
     exact ⟨rfl,by omega,by rw [hsz];exact this.2⟩
   · have hi:=zcm hq
     obtain ⟨rfl,_,_⟩:=hg (by omega)
     have hlt:=hrow.lt g rfl
     rw [World.cell?_setCells_out _ _ _ _ _ (fun e _=>by simp only at e;omega),Nat.zero_add]
     exact zuv hrow rfl hq hi hu
   · have hi:=zcm hq
     obtain ⟨rfl,_,_⟩:=hg (by omega)
     have hlt:=hrow.lt g rfl
     exact ((h.done i q hi hq).setsAt (by omega) vs 0).mono' (by omega)
 · have e:n - (kids.length:Int) + ((len:Nat):Int) - ((Pr.sizes (kids.take len):Nat):Int) = n + 1 - ((Pr.node op t nn x y kids).size:Nat):=by
     rw [List.take_of_length_le (by omega)];simp only [Pr.size];omega
   have ha:=h.an
   rw [e] at ha
   exact ⟨ha.l.setsFar _ _ (by omega),ha.a.setsFar _ _ (by omega)⟩
theorem zq9 (p:Pr) (bl ba:Nat):∀ (v:Value) (w:World) (n:Int),Lies 5 pc (fun b=>b < bl) w p v → An w bl ba n → (p.size:Int) ≤ n → n ≤ 100000 → p.size ≤ 1000 →
   Calls Tryz.prog 95 #[prV p v,.pointer (some ⟨bl,0,none⟩),.pointer (some ⟨ba,0,none⟩)] w (zm7 p bl ba n w):=by
 induction p using Pr.ind with
 | h op t nn x y kids ih =>
   intro v w n hL hA hsz hn1 hs1
   obtain ⟨oa,cap,b,o,V,rfl,ht,hl,hc,hn,hcell,hrec⟩:=za8 hL
   simp only [prV,Pr.kids_node,Pr.text_node,Pr.op_node,Pr.n_node,Pr.x_node,Pr.y_node,Pr.size] at *
   have h1000:=Pr.len_le_sizes kids
   have zl:=hA.l.lt
   have za:=hA.a.lt
   have s1:(w.setCell ⟨bl,0,none⟩ (.int .i64 (n - kids.length))).heap.size = w.heap.size:=by simp [World.setCell]
   have s2:((w.setCell ⟨bl,0,none⟩ (.int .i64 (n - kids.length))).alloc (.cells #[.int .i64 op,.string t,.int .i64 nn,.complex .f64 x y,.slice oa kids.length cap] 40)).heap.size = w.heap.size + 1:=by simp [World.setCell]
   have PP:=y38h (And.intro ((Own.newAt (w.setCell ⟨bl,0,none⟩ (.int .i64 (n - kids.length))) #[.int .i64 op,.string t,.int .i64 nn,.complex .f64 x y,.slice oa kids.length cap] 40 (b:=w.heap.size) s1).alloc (.cells #[.int .i64 0,.string ⟨#[]⟩,.int .i64 0,.complex .f64 0 0,.slice none 0 0] 40)) (And.intro (Own.newAt ((w.setCell ⟨bl,0,none⟩ (.int .i64 (n - kids.length))).alloc (.cells #[.int .i64 op,.string t,.int .i64 nn,.complex .f64 x y,.slice oa kids.length cap] 40)) #[.int .i64 0,.string ⟨#[]⟩,.int .i64 0,.complex .f64 0 0,.slice none 0 0] 40 (b:=w.heap.size + 1) s2) (And.intro (((hA.set (n - kids.length)).alloc (.cells #[.int .i64 op,.string t,.int .i64 nn,.complex .f64 x y,.slice oa kids.length cap] 40)).alloc (.cells #[.int .i64 0,.string ⟨#[]⟩,.int .i64 0,.complex .f64 0 0,.slice none 0 0] 40)) (zgk (zgk (zz6 (w:=w) (b:=bl) (o:=0) (.int .i64 (n - kids.length))) (World.grownBy_alloc _ (.cells #[.int .i64 op,.string t,.int .i64 nn,.complex .f64 x y,.slice oa kids.length cap] 40) (some bl))) (World.grownBy_alloc _ (.cells #[.int .i64 0,.string ⟨#[]⟩,.int .i64 0,.complex .f64 0 0,.slice none 0 0] 40) (some bl))))))
   have zz:w.heap.size + 1 < (((w.setCell ⟨bl,0,none⟩ (.int .i64 (n - kids.length))).alloc (.cells #[.int .i64 op,.string t,.int .i64 nn,.complex .f64 x y,.slice oa kids.length cap] 40)).alloc (.cells #[.int .i64 0,.string ⟨#[]⟩,.int .i64 0,.complex .f64 0 0,.slice none 0 0] 40)).heap.size:=by simp [World.setCell]
   have ZZ:=y38h zz
   have HAL:=y38h hA.l
   have HC:=y38h hcell
   have HR:=y38h hrec
   have HN:=y38h hn
   have HI:=y38h ih
   have HT:=y38h ht
   have HCP:=y38h hc
   clear hL hcell hrec hn ih ht hA s1 s2 zz
   unfold maxLen at hc
   generalize hlen:kids.length = len at *
   have HLEN:=y38h hlen
   clear hlen
   have cl:=HAL.out.cell
   have fl:=HAL.out.free
   go_enter Tryz.func95,Tryz.ntmps95
   go_upto_region 2 with fail
   clear cl fl HAL
   revert PP ZZ
   generalize World.alloc (World.alloc (World.setCell _ _ _) _) _ = W2
   intro PP ZZ
   obtain ⟨ox,oz,an,gr⟩:=PP.out
   have OX:=y38h ox
   have OZ:=y38h oz
   have AN:=y38h an
   have GR:=y38h gr
   clear ox oz an gr PP
   have cl:=AN.out.l.cell
   have zl2:=AN.out.l.lt
   have cx:=OX.out.cell
   have fx:=OX.out.free
   have zx:=OX.out.lt
   have g0:decide (n - (len:Int) < 0) = false:=decide_eq_false (by omega)
   have CLN:=y38h (znh kids V oa cap b o W2 HCP.out (fun h=>⟨(HN.out (by rw [← HLEN.out];exact h)).1,by have:=(HN.out (by rw [← HLEN.out];exact h)).2;have:=ZZ.out;omega⟩) (fun i p hp j u hu=>(zib GR.out (by have:=(HN.out (by rw [← HLEN.out];have:=zcm hp;omega)).2;omega) (by have:=(HN.out (by rw [← HLEN.out];have:=zcm hp;omega)).2;simp only [ne_eq,Option.some.injEq];omega) _).trans (HC.out i p hp j u hu)) (fun i p hp=>zar (HR.out i p hp)) (by rw [HLEN.out];omega))
   rw [HLEN.out] at CLN
   go_upto_region 5 with (go_at_call 96;refine CLN.out.mono ?_;rintro e w3 ⟨v3,rfl,hrow,hb3⟩;have hrow0:=y38h hrow;obtain ⟨o3,c3,g,rfl,r1,r2,r3⟩:=zan hrow;clear cl zl2 cx fx zx hrow;replace OX:=y38h (OX.out.later hb3);replace OZ:=y38h (OZ.out.later hb3);replace AN:=y38h (AN.out.later hb3);replace GR:=y38h (zvz GR.out hb3 (by have:=GR.out.size;omega));have HG:=y38h r3;have HB3:=y38h hb3.size;have cx:=OX.out.cell;have fx:=OX.out.free;have zx:=OX.out.lt;clear hb3 r3)
   unfold maxLen at r2
   have AS:=y38h (zsz (V:=V) (kids:=kids) (o3:=o3) (len:=len) (c3:=c3) (g:=g) (op:=op) (t:=t) (nn:=nn) (x:=x) (y:=y) OX.out OZ.out AN.out GR.out hrow0.out (by have:=ZZ.out;omega) HLEN.out zl za)
   clear cx fx zx OX OZ AN GR hrow0 CLN g0
   revert AS
   generalize World.setCell w3 ⟨w.heap.size,4,none⟩ (.slice o3 len c3) = W4
   intro AS
   have cx:=AS.out.x.cell
   have zx:=AS.out.x.lt
   go_wp2_with fail
   go_loopw [22] (fun i wr=>z0x w kids len bl ba n #[.int .i64 op,.string t,.int .i64 nn,.complex .f64 x y,.slice o3 len c3] #[.int .i64 0,.string ⟨#[]⟩,.int .i64 0,.complex .f64 0 0,.slice none 0 0] V (.slice o3 len c3) g i wr) (fun i _=>len - (intOf i).toNat)
   case atStart=>exact ⟨0,V,Nat.zero_le _,rfl,AS⟩
   case round =>
     clear AS cx zx
     obtain ⟨k,V',hk,rfl,AS⟩:=hrel
     by_cases hlt:k < len
     · obtain ⟨q,hq⟩:∃ q,kids[k]? = some q:=⟨_,List.getElem?_eq_getElem (by rw [HLEN.out];exact hlt)⟩
       obtain ⟨rfl,_,_⟩:=HG.out (by omega)
       have hrow:=AS.out.row
       rw [HLEN.out] at hrow
       have zg:w.heap.size + 2 ≤ g ∧ g < wr.heap.size:=AS.out.row.lt g rfl
       obtain ⟨oq,cq,hV⟩:=zal (HR.out k q hq)
       have hVk:V' k = .slice oq q.kids.length cq:=(AS.out.left k (Nat.le_refl _)).trans hV
       obtain ⟨c0,c1,c2,c3',c4⟩:=zcc (w:=wr) (q:=q) (v:=V' k) (b:=g) (o:=k * 5) (fun j u hu=>by
         have hj:j < 5:=(List.getElem?_eq_some_iff.1 hu).1
         rw [hrow.cellAt (k * 5 + j) (by omega),ze4 _ _ _ _ _ hq _ hj,Nat.zero_add]
         exact hu)
       have L0:=(HR.out k q hq).mono (S':=fun b=>b < bl) (w':=(wr.alloc (.cells #[.int .i64 q.op,.string q.text,.int .i64 q.n,.complex .f64 q.x q.y,.slice oq q.kids.length cq] 40)).drew) (fun b o hS=>zib (w:=(wr.alloc (.cells #[.int .i64 q.op,.string q.text,.int .i64 q.n,.complex .f64 q.x q.y,.slice oq q.kids.length cq] 40))) (zgk AS.out.gr (World.grownBy_alloc wr (.cells #[.int .i64 q.op,.string q.text,.int .i64 q.n,.complex .f64 q.x q.y,.slice oq q.kids.length cq] 40) (some bl))) (by omega) (by simp only [ne_eq,Option.some.injEq];omega) o) (fun _ h=>h)
       rw [hV] at L0
       rw [hVk] at c4
       have hqs:=Pr.size_mem (List.mem_of_getElem? hq)
       have h3:=Pr.sizes_take hq
       have h4:Pr.sizes kids = Pr.sizes (kids.take (k + 1)) + Pr.sizes (kids.drop (k + 1)):=by rw [← Pr.sizes_append,List.take_append_drop]
       have h5:=Pr.len_le_sizes (kids.drop (k + 1))
       rw [List.length_drop,HLEN.out] at h5
       have CC0:=HI.out q (List.mem_of_getElem? hq) (.slice oq q.kids.length cq) _ _ L0 (AS.out.an.alloc _).drew (by rw [HLEN.out];omega) (by rw [HLEN.out];omega) (by omega)
       unfold zm7 at CC0
       have CC:=y38h CC0
       clear CC0
       have HROW:=y38h hrow
       have HQ:=y38h hq
       have HVK:=y38h hVk
       have OX:=y38h (AS.out.x.alloc (.cells #[.int .i64 q.op,.string q.text,.int .i64 q.n,.complex .f64 q.x q.y,.slice oq q.kids.length cq] 40))
       have AN:=y38h (AS.out.an.a.alloc (.cells #[.int .i64 q.op,.string q.text,.int .i64 q.n,.complex .f64 q.x q.y,.slice oq q.kids.length cq] 40))
       have OQ:=y38h (Own.new wr #[.int .i64 q.op,.string q.text,.int .i64 q.n,.complex .f64 q.x q.y,.slice oq q.kids.length cq] 40)
       have hb1:w.heap.size ≠ bl:=by omega
       have hb2:ba ≠ bl:=fun e=>AS.out.an.ne e.symm
       have hb3:wr.heap.size ≠ bl:=by have:=AS.out.gr.size;omega
       have hg1:w.heap.size ≠ g:=by omega
       have hg2:ba ≠ g:=by omega
       have hg3:wr.heap.size ≠ g:=by omega
       have zg1:=zg.2
       clear L0 h3 h4 h5 hV hVk hrow
       go_upto_region 8 with fail
       clear c0 c1 c2 c3' c4
       go_region_held3 (fun w'=>(∀ o,w'.cell? ⟨w.heap.size,o,none⟩ = (#[.int .i64 op,.string t,.int .i64 nn,.complex .f64 x y,.slice (some ⟨g,0,none⟩) len c3]:Array Value)[o]?) ∧ (∀ o,w'.cell? ⟨ba,o,none⟩ = (#[.func (Fn.func 95) #[] #[.pointer (some ⟨bl,0,none⟩),.pointer (some ⟨ba,0,none⟩)]]:Array Value)[o]?) ∧ (∀ o,w'.cell? ⟨wr.heap.size,o,none⟩ = (#[.int .i64 q.op,.string q.text,.int .i64 q.n,.complex .f64 q.x q.y,.slice oq q.kids.length cq]:Array Value)[o]?)) (first | with_reducible exact ⟨OX8.out.cell,AN8.out.cell,OQ8.out.cell⟩ | with_reducible exact ⟨(OX8.out.far5 hg1 _ _ _ _ _ _ _ _ _ _).cell,(AN8.out.far5 hg2 _ _ _ _ _ _ _ _ _ _).cell,(OQ8.out.far5 hg3 _ _ _ _ _ _ _ _ _ _).cell⟩ | with_reducible exact ⟨OX.out.cell,AN.out.cell,OQ.out.cell⟩ | with_reducible exact ⟨OX.out.drew.cell,AN.out.drew.cell,OQ.out.drew.cell⟩) (first
         | (go_simp;go_at_call 95;with_reducible refine CC.out.mono ?_;rintro e w8 ⟨v8,rfl,hL8,hg8,ha8⟩;obtain ⟨o8,c8,rfl⟩:=zal hL8.lp;have OX8:=y38h (OX.out.grownD hg8 hb1);have AN8:=y38h (AN.out.grownD hg8 hb2);have OQ8:=y38h (OQ.out.grownD hg8 hb3);have hg9:=zql (World.grownBy_alloc wr _ none) (zlr hg8);have hrow8:=HROW.out.kept hg9 (.inr (by simp only [Value.ownBlock,ne_eq,Option.some.injEq];omega));have fg:=zd0 hrow8;have zg8:=(hrow8.lt g rfl).2;obtain ⟨e0,e1,e2,e3,e4⟩:=zcc (w:=w8) (q:=q) (v:=V' k) (b:=g) (o:=k * 5) (fun j u hu=>zuv hrow8 HLEN.out HQ.out hlt hu);rw [HVK.out] at e4;clear hrow8;have HL8:=y38h hL8;have HG8:=y38h hg8;have HA8:=y38h ha8;clear hL8 hg8 ha8)
         | fail)
       have KEY:Hid (AnS w kids bl ba n #[.int .i64 op,.string t,.int .i64 nn,.complex .f64 x y,.slice (some ⟨g,0,none⟩) len c3] #[.int .i64 0,.string ⟨#[]⟩,.int .i64 0,.complex .f64 0 0,.slice none 0 0] V (.slice (some ⟨g,0,none⟩) len c3) g (k + 1) (updU V' k (.slice o8 q.kids.length c8)) (((((w8.setCell ⟨g,k * 5,none⟩ (.int .i64 q.op)).setCell ⟨g,k * 5 + 1,none⟩ (.string q.text)).setCell ⟨g,k * 5 + 2,none⟩ (.int .i64 q.n)).setCell ⟨g,k * 5 + 3,none⟩ (.complex .f64 q.x q.y)).setCell ⟨g,k * 5 + 4,none⟩ (.slice o8 q.kids.length c8))) :=
         y38h (AnS.step AS.out HLEN.out zl za zg.1 zg.2 HQ.out HL8.out (zlr HG8.out) HA8.out)
       revert KEY
       clear e0 e1 e2 e3 e4 fg zg8 OX8 AN8 OQ8 HL8 HG8 HA8 hg9 CC OX AN OQ AS
       generalize World.setCell (World.setCell (World.setCell (World.setCell (World.setCell _ _ _) _ _) _ _) _ _) _ _ = W5
       intro KEY
       go_wp2_with fail
       go_roundw
       case rel=>exact ⟨k + 1,_,by omega,by go_num,KEY⟩
       case measure=>simp [intOf];omega
     · have e:k = len:=by omega
       subst e
       have cx:=AS.out.x.cell
       have fx:=AS.out.x.free
       have zx:=AS.out.x.lt
       have cz:=AS.out.z.cell
       have fz:=AS.out.z.free
       have zz:=AS.out.z.lt
       go_wp2_with fail
       have KEY:=y38h (AnS.fin (op:=op) (t:=t) (nn:=nn) (x:=x) (y:=y) AS.out HLEN.out HG.out (by rfl) zl za HT.out r1 r2)
       clear cx fx zx cz fz zz AS
       have KEY2:Hid (Own (((((wr.setCell ⟨w.heap.size + 1,0,none⟩ (.int .i64 op)).setCell ⟨w.heap.size + 1,1,none⟩ (.string t)).setCell ⟨w.heap.size + 1,2,none⟩ (.int .i64 nn)).setCell ⟨w.heap.size + 1,3,none⟩ (.complex .f64 x y)).setCell ⟨w.heap.size + 1,4,none⟩ (.slice o3 k c3)) (w.heap.size + 1) #[.int .i64 op,.string t,.int .i64 nn,.complex .f64 x y,.slice o3 k c3] 40 ∧ ∃ v',.slice o3 k c3 = v' ∧ LPF (((((wr.setCell ⟨w.heap.size + 1,0,none⟩ (.int .i64 op)).setCell ⟨w.heap.size + 1,1,none⟩ (.string t)).setCell ⟨w.heap.size + 1,2,none⟩ (.int .i64 nn)).setCell ⟨w.heap.size + 1,3,none⟩ (.complex .f64 x y)).setCell ⟨w.heap.size + 1,4,none⟩ (.slice o3 k c3)) w.heap.size (.node op t nn x y kids) v' ∧ w.grownBy (((((wr.setCell ⟨w.heap.size + 1,0,none⟩ (.int .i64 op)).setCell ⟨w.heap.size + 1,1,none⟩ (.string t)).setCell ⟨w.heap.size + 1,2,none⟩ (.int .i64 nn)).setCell ⟨w.heap.size + 1,3,none⟩ (.complex .f64 x y)).setCell ⟨w.heap.size + 1,4,none⟩ (.slice o3 k c3)) (some bl) ∧ An (((((wr.setCell ⟨w.heap.size + 1,0,none⟩ (.int .i64 op)).setCell ⟨w.heap.size + 1,1,none⟩ (.string t)).setCell ⟨w.heap.size + 1,2,none⟩ (.int .i64 nn)).setCell ⟨w.heap.size + 1,3,none⟩ (.complex .f64 x y)).setCell ⟨w.heap.size + 1,4,none⟩ (.slice o3 k c3)) bl ba (n + 1 - (Pr.node op t nn x y kids).size)):=y38h ⟨KEY.out.1,_,rfl,KEY.out.2.1,KEY.out.2.2.1,KEY.out.2.2.2⟩
       clear KEY
       revert KEY2
       generalize World.setCell (World.setCell (World.setCell (World.setCell (World.setCell _ _ _) _ _) _ _) _ _) _ _ = W5
       intro KEY
       have lf:=KEY.out.1.cell
       obtain ⟨_,rfl,hk1,hk2,hk3⟩:=KEY.out.2
       exact bodyPost_ret (v:=.agg #[.int .i64 op,.string t,.int .i64 nn,.complex .f64 x y,.slice o3 k c3]) (by simp [results,Tryz.results95,go_sem,lf]) rfl ⟨_,rfl,hk1,hk2,hk3⟩
theorem zdq (p:Pr) (v:Value) (w:World) (hL:LP w p v) (hsz:p.size ≤ 1000) :
   Calls Tryz.prog 46 #[prV p v] w fun e w'=>∃ v',e = .returned (prV p v') ∧ LPF w' w.heap.size p v' ∧ Below w.heap.size w w':=by
 obtain ⟨oa,cap,rfl⟩:=zal hL
 have AN:An ((((w.alloc (.cells #[.int .i64 p.op,.string p.text,.int .i64 p.n,.complex .f64 p.x p.y,.slice oa p.kids.length cap] 40)).alloc (.cells #[.int .i64 0,.string ⟨#[]⟩,.int .i64 0,.complex .f64 0 0,.slice none 0 0] 40)).alloc (.cells #[.int .i64 65536] 3)).alloc (.cells #[.func (Fn.func 95) #[] #[.pointer (some ⟨w.heap.size + 1 + 1,0,none⟩),.pointer (some ⟨w.heap.size + 1 + 1 + 1,0,none⟩)]] 89)) (w.heap.size + 1 + 1) (w.heap.size + 1 + 1 + 1) 65536:=⟨(Own.newAt ((w.alloc (.cells #[.int .i64 p.op,.string p.text,.int .i64 p.n,.complex .f64 p.x p.y,.slice oa p.kids.length cap] 40)).alloc (.cells #[.int .i64 0,.string ⟨#[]⟩,.int .i64 0,.complex .f64 0 0,.slice none 0 0] 40)) #[.int .i64 65536] 3 (by simp)).alloc _,Own.newAt (((w.alloc (.cells #[.int .i64 p.op,.string p.text,.int .i64 p.n,.complex .f64 p.x p.y,.slice oa p.kids.length cap] 40)).alloc (.cells #[.int .i64 0,.string ⟨#[]⟩,.int .i64 0,.complex .f64 0 0,.slice none 0 0] 40)).alloc (.cells #[.int .i64 65536] 3)) #[.func (Fn.func 95) #[] #[.pointer (some ⟨w.heap.size + 1 + 1,0,none⟩),.pointer (some ⟨w.heap.size + 1 + 1 + 1,0,none⟩)]] 89 (by simp)⟩
 have OP:=y38h ((((Own.new w #[.int .i64 p.op,.string p.text,.int .i64 p.n,.complex .f64 p.x p.y,.slice oa p.kids.length cap] 40).alloc (.cells #[.int .i64 0,.string ⟨#[]⟩,.int .i64 0,.complex .f64 0 0,.slice none 0 0] 40)).alloc (.cells #[.int .i64 65536] 3)).alloc (.cells #[.func (Fn.func 95) #[] #[.pointer (some ⟨w.heap.size + 1 + 1,0,none⟩),.pointer (some ⟨w.heap.size + 1 + 1 + 1,0,none⟩)]] 89))
 have OZ:=y38h (((Own.newAt (w.alloc (.cells #[.int .i64 p.op,.string p.text,.int .i64 p.n,.complex .f64 p.x p.y,.slice oa p.kids.length cap] 40)) #[.int .i64 0,.string ⟨#[]⟩,.int .i64 0,.complex .f64 0 0,.slice none 0 0] 40 (b:=w.heap.size + 1) (by simp)).alloc (.cells #[.int .i64 65536] 3)).alloc (.cells #[.func (Fn.func 95) #[] #[.pointer (some ⟨w.heap.size + 1 + 1,0,none⟩),.pointer (some ⟨w.heap.size + 1 + 1 + 1,0,none⟩)]] 89))
 have B4:Below w.heap.size w ((((w.alloc (.cells #[.int .i64 p.op,.string p.text,.int .i64 p.n,.complex .f64 p.x p.y,.slice oa p.kids.length cap] 40)).alloc (.cells #[.int .i64 0,.string ⟨#[]⟩,.int .i64 0,.complex .f64 0 0,.slice none 0 0] 40)).alloc (.cells #[.int .i64 65536] 3)).alloc (.cells #[.func (Fn.func 95) #[] #[.pointer (some ⟨w.heap.size + 1 + 1,0,none⟩),.pointer (some ⟨w.heap.size + 1 + 1 + 1,0,none⟩)]] 89)):=((((Below.refl w.heap.size w).alloc (Nat.le_refl _) _).alloc (by simp) _).alloc (by simp;omega) _).alloc (by simp;omega) _
 have s4:((((w.alloc (.cells #[.int .i64 p.op,.string p.text,.int .i64 p.n,.complex .f64 p.x p.y,.slice oa p.kids.length cap] 40)).alloc (.cells #[.int .i64 0,.string ⟨#[]⟩,.int .i64 0,.complex .f64 0 0,.slice none 0 0] 40)).alloc (.cells #[.int .i64 65536] 3)).alloc (.cells #[.func (Fn.func 95) #[] #[.pointer (some ⟨w.heap.size + 1 + 1,0,none⟩),.pointer (some ⟨w.heap.size + 1 + 1 + 1,0,none⟩)]] 89)).heap.size = w.heap.size + 4:=by simp
 have CC0:=zq9 p (w.heap.size + 1 + 1) (w.heap.size + 1 + 1 + 1) (.slice oa p.kids.length cap) ((((w.alloc (.cells #[.int .i64 p.op,.string p.text,.int .i64 p.n,.complex .f64 p.x p.y,.slice oa p.kids.length cap] 40)).alloc (.cells #[.int .i64 0,.string ⟨#[]⟩,.int .i64 0,.complex .f64 0 0,.slice none 0 0] 40)).alloc (.cells #[.int .i64 65536] 3)).alloc (.cells #[.func (Fn.func 95) #[] #[.pointer (some ⟨w.heap.size + 1 + 1,0,none⟩),.pointer (some ⟨w.heap.size + 1 + 1 + 1,0,none⟩)]] 89)) 65536 (hL.mono (fun b o hS=>B4.cell (p:=⟨b,o,none⟩) hS) (fun b hS=>by omega)) AN (by omega) (by omega) hsz
 unfold zm7 at CC0
 rw [s4] at CC0
 have CC:=y38h CC0
 have BE:=y38h B4
 have S4:=y38h s4
 have AN:=y38h AN
 clear CC0 B4 hL s4
 have lp:=OP.out.cell
 have zp:=OP.out.lt
 have la:=AN.out.a.cell
 have za:=AN.out.a.lt
 go_enter Tryz.func46,Tryz.ntmps46
 go_wp2_with fail
 refine CC.out.mono ?_
 rintro e w8 ⟨v8,rfl,hL8,hg8,ha8⟩
 obtain ⟨o8,c8,rfl⟩:=zal hL8.lp
 have OZ8:=y38h (OZ.out.grown hg8 (by simp))
 have BE8:=y38h (BE.out.trans ((zpj hg8 (Nat.le_refl _) (by rw [S4.out];omega)).mono (by omega)))
 have HL8:=y38h hL8
 clear lp zp la za hL8 hg8 ha8
 have cz:=OZ8.out.cell
 have fz:=OZ8.out.free
 have zz:=OZ8.out.lt
 go_wp2_with fail
 have KEY:Hid (Own (((((w8.setCell ⟨w.heap.size + 1,0,none⟩ (.int .i64 p.op)).setCell ⟨w.heap.size + 1,1,none⟩ (.string p.text)).setCell ⟨w.heap.size + 1,2,none⟩ (.int .i64 p.n)).setCell ⟨w.heap.size + 1,3,none⟩ (.complex .f64 p.x p.y)).setCell ⟨w.heap.size + 1,4,none⟩ (.slice o8 p.kids.length c8)) (w.heap.size + 1) #[.int .i64 p.op,.string p.text,.int .i64 p.n,.complex .f64 p.x p.y,.slice o8 p.kids.length c8] 40 ∧ LPF (((((w8.setCell ⟨w.heap.size + 1,0,none⟩ (.int .i64 p.op)).setCell ⟨w.heap.size + 1,1,none⟩ (.string p.text)).setCell ⟨w.heap.size + 1,2,none⟩ (.int .i64 p.n)).setCell ⟨w.heap.size + 1,3,none⟩ (.complex .f64 p.x p.y)).setCell ⟨w.heap.size + 1,4,none⟩ (.slice o8 p.kids.length c8)) w.heap.size p (.slice o8 p.kids.length c8) ∧ Below w.heap.size w (((((w8.setCell ⟨w.heap.size + 1,0,none⟩ (.int .i64 p.op)).setCell ⟨w.heap.size + 1,1,none⟩ (.string p.text)).setCell ⟨w.heap.size + 1,2,none⟩ (.int .i64 p.n)).setCell ⟨w.heap.size + 1,3,none⟩ (.complex .f64 p.x p.y)).setCell ⟨w.heap.size + 1,4,none⟩ (.slice o8 p.kids.length c8))):=y38h ⟨OZ8.out.sets (pc p (.slice o8 p.kids.length c8)) rfl,((HL8.out.setsAt (b:=w.heap.size + 1) (by omega) (pc p (.slice o8 p.kids.length c8)) 0).mono' (by omega)),zab (b:=w.heap.size + 1) (by omega) (pc p (.slice o8 p.kids.length c8)) 0 BE8.out⟩
 clear cz fz zz OZ8 BE8 HL8
 revert KEY
 generalize World.setCell (World.setCell (World.setCell (World.setCell (World.setCell _ _ _) _ _) _ _) _ _) _ _ = W5
 intro KEY
 have lf:=KEY.out.1.cell
 exact bodyPost_ret (v:=.agg #[.int .i64 p.op,.string p.text,.int .i64 p.n,.complex .f64 p.x p.y,.slice o8 p.kids.length c8]) (by simp [results,Tryz.results46,go_sem,lf]) rfl ⟨_,rfl,KEY.out.2.1,KEY.out.2.2⟩
theorem zm0 (w:World) (t e ty:TypeId) (z:Value) (ht:Tryz.prog.underlying t = some (.slice e)) (hv:∀ w,(zeroValue e).run Tryz.prog w = .ok z w) (size:Nat) (hsz:z.cells.size = size) (h0:0 < size) (h1:∀ v ∈ z.cells.toList,v.oneCell' = true) (b o n c:Nat) (hn:0 < n)
   (hc:∀ j,j < n * size → (w.cell? ⟨b,o + j,none⟩).isSome = true) (hf:∀ j,j < n * size → w.frozen? ⟨b,o + j,none⟩ = false) :
   ∃ zs:List Value,zs.length = n * size ∧ ∀ ty,(Builtin.clear_ #[t] ty #[.slice (some ⟨b,o,none⟩) n c]).run Tryz.prog w = .ok (.tuple #[]) (w.setCells b o zs):=by
 have hl:(Builtin.zeroCells z.cells n).toList.length = n * size:=by simp [Builtin.zeroCells,hsz]
 refine ⟨(Builtin.zeroCells z.cells n).toList,hl,fun ty=>?_⟩
 have h2:∀ v ∈ (Builtin.zeroCells z.cells n).toList,v.oneCell' = true:=by
   intro v hv'
   unfold Builtin.zeroCells at hv'
   simp only [Array.toList_map,List.mem_map] at hv'
   obtain ⟨i,_,rfl⟩:=hv'
   refine h1 _ ?_
   have:i % z.cells.size < z.cells.size:=Nat.mod_lt _ (by omega)
   rw [getElem!_pos z.cells _ this]
   exact Array.getElem_mem_toList this
 have hst:=run_storeCells_cells (P:=Tryz.prog) b o (Builtin.zeroCells z.cells n).toList 0 w (by rw [hl];simpa using hc) (by rw [hl];simpa using hf) h2
 simp only [Nat.add_zero] at hst
 obtain ⟨m,rfl⟩:∃ m,n = m + 1:=⟨n - 1,by omega⟩
 simp [Builtin.clear_,run_underlying ht,hv,hst]
theorem zxb (xs:List Value) (vs:List Value):∀ (c:List Value) (o:Nat),setL (xs ++ c) (xs.length + o) vs = xs ++ setL c o vs:=by
 induction vs with
 | nil=>intro c o;rfl
 | cons v vs ih =>
   intro c o
   show setL ((xs ++ c).set (xs.length + o) v) (xs.length + o + 1) vs = _
   rw [List.set_append_right _ _ (by omega),show xs.length + o - xs.length = o by omega,Nat.add_assoc,ih]
   rfl
theorem zjp (x:Itm):∀ (m:List Itm) (i:Nat),i < m.length → setL (zat m) (i * 8) (ic x) = zat (m.set i x)
 | [],i,h=>by simp at h
 | a :: m,0,_=>rfl
 | a :: m,i + 1,h=>by
   have e:zat (a :: m) = ic a ++ zat m:=rfl
   rw [e,show (i + 1) * 8 = (ic a).length + i * 8 by show (i + 1) * 8 = 8 + i * 8;omega,zxb,zjp x m i (by simpa using h)]
   rfl
structure DfS (w:World) (B:Nat) (l:List Itm) (g cap n i j:Nat) (m:List Itm) (wr:World):Prop where
 len:m.length = n
 head:m.take i = (l.take j).filter fun x=>!x.d
 tail:m.drop j = l.drop j
 lt:i < j
 own:wr.ownsRow B 69 8 (.slice (some ⟨g,0,none⟩) n cap) n (zat m)
 gr:Below B w wr
def z01 (w:World) (B:Nat) (l:List Itm) (g cap n:Nat) (i j:Value) (wr:World):Prop :=
 ∃ (a b:Nat) (m:List Itm),i = .int .i64 a ∧ j = .int .i64 b ∧ b ≤ n ∧ Hid (DfS w B l g cap n a b m wr)
section
variable {w wr:World} {B:Nat} {l:List Itm} {g cap n i j:Nat} {m:List Itm}
theorem DfS.skip {w8:World} {x:Itm} (h:DfS w B l g cap n i j m wr) (hx:l[j]? = some x) (hd:x.d = true) (hb:Below wr.heap.size wr w8) (hB:B ≤ wr.heap.size):DfS w B l g cap n i (j + 1) m w8:=by
 refine ⟨h.len,?_,?_,by have:=h.lt;omega,zau h.own hb,h.gr.trans (hb.mono hB)⟩
 · rw [h.head,List.take_add_one,hx]
   simp [hd]
 · have:=congrArg (List.drop 1) h.tail
   simpa [List.drop_drop] using this
theorem DfS.keep {w8:World} {x:Itm} (h:DfS w B l g cap n i j m wr) (hl:l.length = n) (hx:l[j]? = some x) (hd:x.d = false) (hb:Below wr.heap.size wr w8) (hB:B ≤ wr.heap.size):DfS w B l g cap n (i + 1) (j + 1) (m.set i x) (w8.setCells g (i * 8) (ic x)):=by
 have hj:=zbq hx
 have hlt:=h.lt
 have hlen:=h.len
 have hg:=h.own.lt g rfl
 refine ⟨by rw [List.length_set];exact h.len,?_,?_,by omega,?_,?_⟩
 · have e1:(m.set i x).take (i + 1) = m.take i ++ [x]:=by
     rw [List.take_add_one,List.getElem?_set_self (by omega),List.take_set_of_le (Nat.le_refl _)]
     rfl
   rw [e1,h.head,List.take_add_one (l:=l),hx]
   simp [hd]
 · rw [List.drop_set_of_lt (by omega)]
   have:=congrArg (List.drop 1) h.tail
   simpa [List.drop_drop] using this
 · rw [← zjp x m i (by omega)]
   exact zjd _ _ (zau h.own hb) (by show i * 8 + 8 ≤ _;omega)
 · exact zab hg.1 _ _ (h.gr.trans (hb.mono hB))
theorem DfS.fin {zs:List Value} (h:DfS w B l g cap n i n m wr) (hl:l.length = n) (hok:∀ i ∈ l,i.id.size ≤ maxLen ∧ i.kd.size ≤ maxLen) (hz:zs.length = (n - i) * 8):Row 8 ic (wr.setCells g (i * 8) zs) (l.filter fun x=>!x.d) (.slice (some ⟨g,0,none⟩) i cap) ∧ Below B w (wr.setCells g (i * 8) zs):=by
 have hg:=h.own.lt g rfl
 have hlt:=h.lt
 have hlen:=h.len
 have hhead:m.take i = l.filter fun x=>!x.d:=by
   have:=h.head
   rw [List.take_of_length_le (l:=l) (by omega)] at this
   exact this
 have hli:(l.filter fun x=>!x.d).length = i:=by rw [← hhead,List.length_take];omega
 have hown:=zjd zs (i * 8) h.own (by rw [hz];omega)
 obtain ⟨_,_,_,e0,hle,hmx,_⟩:=zan h.own
 cases e0
 refine ⟨⟨_,cap,g,0,by rw [hli],⟨by omega,?_,fun _=>⟨rfl,(hown.lt g rfl).2⟩,fun k y hk a u hu=>?_,fun y hy=>hok y (List.mem_filter.1 hy).1⟩⟩,zab hg.1 _ _ h.gr⟩
 · exact hmx
 · have hki:k < i:=by rw [← hli];exact zbq hk
   have ha:a < 8:=(List.getElem?_eq_some_iff.1 hu).1
   have e1:m[k]? = some y:=by
     rw [← hhead,List.getElem?_take,if_pos hki] at hk
     exact hk
   rw [World.cell?_setCells_out g zs (i * 8) wr ⟨g,0 + k * 8 + a,none⟩ (fun _ _=>Or.inl (by show 0 + k * 8 + a < i * 8;omega)),Nat.zero_add,h.own.cellAt (k * 8 + a) (by omega),zek m k y e1 a ha]
   exact hu
end
theorem zge (x:Itm) (w:World):Calls Tryz.prog 57 #[iV x] w fun e w'=>e = .returned (.bool x.d) ∧ Below w.heap.size w w':=by
 have BE:=y38h ((Below.refl w.heap.size w).alloc (Nat.le_refl _) (.cells (iA x) 69))
 go_enter Tryz.func57,Tryz.ntmps57
 go_wp2
 go_ret
 exact ⟨rfl,BE.out⟩
theorem znq {l:List Itm} (h:l.any (fun x=>x.d) = false):l.filter (fun x=>!x.d) = l:=by
 rw [List.filter_eq_self]
 intro x hx
 have:=List.any_eq_false.1 h x hx
 simpa using this
theorem z0u:∀ w,(zeroValue 69).run Tryz.prog w = .ok (iV Itm.zero) w:=Tryz.zeroValue69
theorem zmj (l:List Itm) (v:Value) (B:Nat) (w:World) (hO:OwnI w B l v) (hB:B ≤ w.heap.size) (hok:∀ i ∈ l,i.id.size ≤ maxLen ∧ i.kd.size ≤ maxLen) (hl:l.length ≤ 30000) :
   Calls Tryz.prog 55 #[v,.func (Fn.func 57) #[] #[]] w fun e w'=>∃ v',e = .returned v' ∧ Row 8 ic w' (l.filter fun x=>!x.d) v' ∧ Below B w w':=by
 have IX:=y38h (zj2 (fun x=>x.d) l v w (hO.row hok) (fun w' _ x _=>zge x w'))
 have HOK:=y38h hok
 have HO:=y38h hO
 obtain ⟨oa,cap,g0,rfl,h1,h2,hg⟩:=zan hO
 unfold maxLen at h2
 have HG:=y38h hg
 clear hO hok hg
 generalize hn:l.length = n at *
 have HN:=y38h hn
 clear hn
 go_enter Tryz.func55,Tryz.ntmps55
 go_wp2_with fail
 refine IX.out.mono ?_
 rintro e w1 ⟨nn,rfl,hf,hb⟩
 have HO1:=y38h (HO.out.later hb)
 have HB1:=y38h (hb.mono hB)
 have hs1:=hb.size
 clear IX HO hb
 rcases hf with ⟨k,x,hx,hp,rfl,hnn⟩ | ⟨rfl,hnn⟩
 · have hk:k < n:=by rw [← HN.out];exact zbq hx
   obtain ⟨rfl,hg1,hg2⟩:=HG.out (by omega)
   have hBw:B ≤ w1.heap.size:=by omega
   have D0:Hid (DfS w B l g0 cap n k (k + 1) l w1):=y38h ⟨HN.out,by
     rw [List.take_add_one,hx,List.filter_append,znq hnn]
     have hp':x.d = true:=hp
     simp [hp'],rfl,by omega,by have:=HO1.out;unfold OwnI at this;rw [HN.out] at this;exact this,HB1.out⟩
   have e1:((k:Int) == -1) = false:=by rw [beq_eq_false_iff_ne];omega
   clear hx hp hnn HO1 HB1
   go_wp2_with fail
   go_loopw [5,6] (fun i j wr=>z01 w B l g0 cap n i j wr) (fun _ j _=>n - (intOf j).toNat)
   case atStart=>exact ⟨k,k + 1,l,rfl,by go_num,by omega,D0⟩
   case round =>
     clear D0 e1
     obtain ⟨i,j,m,rfl,rfl,hj,D⟩:=hrel
     by_cases hlt:j < n
     · obtain ⟨y,hy⟩:∃ y,l[j]? = some y:=⟨_,List.getElem?_eq_getElem (by rw [HN.out];exact hlt)⟩
       have hmy:m[j]? = some y:=by
         have:=congrArg (fun (q:List Itm)=>q[0]?) D.out.tail
         simpa [List.getElem?_drop,hy] using this
       have zg:=D.out.own.lt g0 rfl
       obtain ⟨c0,c1,c2,c3,c4,c5,c6,c7⟩:=za0 (w:=wr) (i:=y) (b:=g0) (o:=j * 8) (fun a u hu=>by
         have ha:a < 8:=(List.getElem?_eq_some_iff.1 hu).1
         rw [D.out.own.cellAt (j * 8 + a) (by omega),zek m j y hmy a ha]
         exact hu)
       have hij:=D.out.lt
       have zg2:=zg.2
       have q0:(0:Int) ≤ (j:Int):=by omega
       have q1:(j:Int) < (n:Int):=by omega
       have q2:(0:Int) ≤ (i:Int):=by omega
       have q3:(i:Int) < (n:Int):=by omega
       have HY:=y38h hy
       have BQ:=y38h ((Below.refl wr.heap.size wr).alloc (Nat.le_refl _) (.cells (iA y) 69))
       have OY:=y38h (Own.new wr (iA y) 69)
       have hBr:B ≤ wr.heap.size:=by omega
       clear hy hmy zg hij
       cases hd:y.d
       · have HD:=y38h hd
         have CC:=fun w'=>y38h (hd ▸ zge y w')
         clear hd
         go_wp2_with (first | (go_at_call 57;refine (CC _).out.mono ?_;rintro e w8 ⟨rfl,hb8⟩;replace OY:=y38h (OY.out.later hb8);have hbb:=BQ.out.trans (hb8.mono BQ.out.size);have KEY:=y38h (D.out.keep HN.out HY.out HD.out hbb hBr);have hr8:=zau D.out.own hbb;have TH:Hid (w8.there g0 (i * 8) 8):=y38h (fun a ha=>⟨by rw [hr8.cellAt (i * 8 + a) (by have:=D.out.lt;omega)];rw [List.getElem?_eq_getElem (by rw [zc4,D.out.len];have:=D.out.lt;omega)];rfl,zd0 hr8 _⟩);clear hr8 hb8 hbb;have l8:=OY.out.cell;have z8:=OY.out.lt) | (refine wpList_store_mid (by rfl) 69 _ _ (by rfl) g0 (i * 8) (iA y) (by rfl) (by rfl) (TH.out) (by kernel_rfl) (by simp [Value.oneCell']) ?_;revert KEY;generalize World.setCells _ _ _ _ = W9;intro KEY;clear l8 z8) | fail)
         go_roundw
         case rel=>exact ⟨i + 1,j + 1,_,by go_num,by go_num,by omega,KEY⟩
         case measure=>simp [intOf];omega
       · have HD:=y38h hd
         have CC:=fun w'=>y38h (hd ▸ zge y w')
         clear hd
         go_wp2_with (first | (go_at_call 57;refine (CC _).out.mono ?_;rintro e w8 ⟨rfl,hb8⟩) | fail)
         go_roundw
         case rel=>exact ⟨i,j + 1,m,rfl,by go_num,by omega,y38h (D.out.skip HY.out HD.out (BQ.out.trans (hb8.mono BQ.out.size)) hBr)⟩
         case measure=>simp [intOf];omega
     · obtain rfl:j = n:=by omega
       have hij:=D.out.lt
       have hown:=D.out.own
       obtain ⟨zs,hz,hcl⟩:=zm0 wr 41 69 0 (iV Itm.zero) Tryz.underlying41 z0u 8 (by rfl) (by omega) (by decide) g0 (i * 8) (j - i) (cap - i) (by omega) (fun a ha=>by rw [hown.cellAt (i * 8 + a) (by omega),List.getElem?_eq_getElem (by rw [zc4,D.out.len];omega)];rfl) (fun a ha=>zd0 hown _)
       have FIN:=y38h (D.out.fin HN.out HOK.out hz)
       have q2:(0:Int) ≤ (i:Int):=by omega
       have q3:(i:Int) ≤ (j:Int):=by omega
       have q4:(i:Int) ≤ (cap:Int):=by omega
       clear hown D
       go_wp2_with fail
       go_ret
       exact ⟨_,rfl,FIN.out⟩
 · have e1:((-1:Int) == -1) = true:=by rfl
   go_wp2_with fail
   go_ret
   exact ⟨.slice oa n cap,rfl,(znq hnn).symm ▸ HO1.out.row HOK.out,HB1.out⟩
theorem zfj (s:St) (fv sv ov kv:Value) (w:World) (hS:StW w s fv sv ov kv) (hlen:s.store.length ≤ 1000) :
   Calls Tryz.prog 21 #[stV s fv sv ov kv] w fun e w'=>∃ v',e = .returned v' ∧ Row 8 ic w' (zd8 s) v' ∧ Below w.heap.size w w':=by
 have HOK:=y38h hS.ls.oks
 obtain ⟨of_,cf,rfl⟩:=zal hS.lf
 obtain ⟨os,cs,rfl⟩:=hS.ls.val
 obtain ⟨oo,co,rfl⟩:=hS.lo.val
 obtain ⟨ok,ck,rfl⟩:=hS.lk.val
 have BE:=y38h ((Below.refl w.heap.size w).alloc (Nat.le_refl _) (.cells (stA s (.slice of_ s.f.kids.length cf) (.slice os s.store.length cs) (.slice oo s.out.length co) (.slice ok s.k.l.length ck)) 43))
 have CI:=y38h (ze0 s.store (.slice os s.store.length cs) _ (hS.ls.later BE.out) (by omega))
 clear hS
 go_enter Tryz.func21,Tryz.ntmps21
 go_wp2_with fail
 refine CI.out.mono ?_
 rintro e w1 ⟨v1,rfl,ho,hb⟩
 replace BE:=y38h (BE.out.trans (hb.mono BE.out.size))
 have DD:=y38h (zmj s.store v1 _ w1 (ho.mono (by simp)) (Nat.le_trans (Nat.le_refl w.heap.size) BE.out.size) HOK.out (by omega))
 clear ho hb
 go_wp2_with fail
 refine DD.out.mono ?_
 rintro e w2 ⟨v2,rfl,hr,hb⟩
 go_wp2_with fail
 go_ret
 exact ⟨_,rfl,hr,BE.out.trans hb⟩
end Go.Proofs.YthnllikalobmeaaGreat
namespace Go.Proofs.YthnllikalobmeaaGreat
set_option linter.unusedVariables false
set_option linter.unusedSimpArgs false
set_option maxRecDepth 100000
set_option maxHeartbeats 8000000
open Go.RowKit
theorem zg5 {w w':World} {base size n:Nat} {e:TypeId} {v:Value} {xs:List Value} (h:w.ownsRow base e size v n xs) (hb:∀ b,base ≤ b → b < w.heap.size → w'.heap[b]? = w.heap[b]?):w'.ownsRow base e size v n xs:=by
 obtain ⟨h1,h2⟩:=h
 refine ⟨h1,?_⟩
 rcases h2 with h2 | ⟨g,cap,cur,hv,hg,hh,r⟩
 · exact .inl h2
 · have hlt:g < w.heap.size:=by
     rcases Nat.lt_or_ge g w.heap.size with hlt | hge
     · exact hlt
     · rw [Array.getElem?_eq_none hge] at hh;cases hh
   exact .inr ⟨g,cap,cur,hv,hg,(hb g hg hlt).trans hh,r⟩
theorem zrn {w:World} {B B':Nat} {l:List Fr} {U:Nat → Value} {v:Value} (h:w.ownsRow B 105 9 v l.length (frCs U 0 l)) (hi:∀ i f,l[i]? = some f → OwnT w B' f.ids (U i)) (hB:0 < l.length → B ≤ B') (hok:∀ f ∈ l,∀ s ∈ f.ids,s.size ≤ maxLen):FrFresh w B l v:=by
 intro w' h1 h2
 refine zse (zg5 h h1) fun k f hf=>?_
 have hB':=hB (by have:=posA hf;omega)
 exact (OwnT.tx (zg5 (hi k f hf) fun b hb hlt=>h1 b (by omega) hlt) (hok f (List.mem_of_getElem? hf)))
theorem zrb {B:Nat} {a b:World} (h:Below B a b) {p:Addr} (hp:p.block < B) (hB:B ≤ a.heap.size) (u:Value):Below B (a.setCell p u) (b.setCell p u):=by
 refine ⟨h.os,h.tape,h.output,by simpa [World.setCell] using h.size,fun k hk=>?_⟩
 rcases Decidable.em (k = p.block) with e | e
 · subst e
   have hb:=h.block _ hk
   simp only [World.setCell,Array.getElem?_modify,if_true,hb]
 · rw [Below.heap_setCell _ _ _ _ e,Below.heap_setCell _ _ _ _ e]
   exact h.block k hk
theorem FrW.fr_ok {w:World} {l:List Fr} {v:Value} (h:FrW w l v):∀ f ∈ l,∀ s ∈ f.ids,s.size ≤ maxLen:=by
 obtain ⟨U,oa,cap,b,o,_,h⟩:=h
 intro f hf s hs
 obtain ⟨k,hk⟩:=List.getElem?_of_mem hf
 exact (h.ids k f hk).ok s hs
structure AgX (w:World) (s:St) (v3 v4 v5 kv:Value) (X:World):Prop where
 a:Own X w.heap.size (stA s v3 v4 v5 kv) 43
 t:Own X (w.heap.size + 1) stZ.toArray 43
 b:Below w.heap.size w X
 f:LPF X (w.heap.size + 2) s.f v3
 st:RowF X (w.heap.size + 2) s.store v4
 ou:RowF X (w.heap.size + 2) s.out v5
theorem AgX.later {w X X':World} {s:St} {v3 v4 v5 kv:Value} (h:AgX w s v3 v4 v5 kv X) (hb:Below X.heap.size X X'):AgX w s v3 v4 v5 kv X' :=
 ⟨h.a.later hb,h.t.later hb,h.b.trans (hb.mono h.b.size),h.f.later hb,h.st.later hb,h.ou.later hb⟩
theorem LPF.setLow {w:World} {B b q:Nat} {p:Pr} {v:Value} (h:LPF w B p v) (hb:b < B) (u:Value):LPF (w.setCell ⟨b,q,none⟩ u) B p v:=h.setsAt hb [u] q
theorem AgX.setK {w X:World} {s:St} {v3 v4 v5 kv:Value} (h:AgX w s v3 v4 v5 kv X) (kv':Value):AgX w s v3 v4 v5 kv' (X.setCell ⟨w.heap.size,16,none⟩ kv') :=
 ⟨by have:=h.a.set 16 kv';exact this,h.t.setFar _ _ (by show w.heap.size + 1 ≠ w.heap.size;omega),h.b.setCell (p:=⟨w.heap.size,16,none⟩) (Nat.le_refl _) _,h.f.setLow (by omega) _,h.st.set (by omega) _,h.ou.set (by omega) _⟩
theorem Own.thereAt {w:World} {b:Nat} {c:Array Value} {t:TypeId} (h:Own w b c t) (o n:Nat) (hn:o + n ≤ c.size):w.there b o n:=fun j hj=>by
 rw [h.cell (o + j)]
 exact ⟨by rw [Array.getElem?_eq_getElem (by omega)];rfl,h.free (o + j)⟩
theorem agA {w5:World} {b:Nat} {s:St} {fv sv ov kv:Value} (h:Own w5 b (stA s fv sv ov kv) 43) (v3:Value):Own (w5.setCells b 1 (pc s.f v3)) b (stA s v3 sv ov kv) 43:=by
 have:=((((h.set 1 (.int .i64 s.f.op)).set 2 (.string s.f.text)).set 3 (.int .i64 s.f.n)).set 4 (.complex .f64 s.f.x s.f.y)).set 5 v3
 exact this
theorem zsw {w w5:World} {s:St} {fv sv ov kv v3 v4 v5:Value} (OA:Own w5 w.heap.size (stA s fv sv ov kv) 43) (OT:Own w5 (w.heap.size + 1) stZ.toArray 43) (BEL:Below w.heap.size w w5) (L3:LPF w5 (w.heap.size + 2) s.f v3) (R4:RowF w5 (w.heap.size + 2) s.store v4) (R5:RowF w5 (w.heap.size + 2) s.out v5) :
   AgX w s v3 v4 v5 kv (((w5.setCells w.heap.size 1 (pc s.f v3)).setCell ⟨w.heap.size,6,none⟩ v4).setCell ⟨w.heap.size,7,none⟩ v5):=by
 have h1:w.heap.size < w.heap.size + 2:=by omega
 refine ⟨?_,?_,?_,?_,?_,?_⟩
 · have:=((agA OA v3).set 6 v4).set 7 v5
   exact this
 · exact ((OT.setsFar (pc s.f v3) 1 (by omega)).setFar _ _ (by show w.heap.size + 1 ≠ w.heap.size;omega)).setFar _ _ (by show w.heap.size + 1 ≠ w.heap.size;omega)
 · exact ((zab (Nat.le_refl _) (pc s.f v3) 1 BEL).setCell (p:=⟨w.heap.size,6,none⟩) (Nat.le_refl _) _).setCell (p:=⟨w.heap.size,7,none⟩) (Nat.le_refl _) _
 · exact ((L3.setsAt h1 (pc s.f v3) 1).setLow h1 _).setLow h1 _
 · exact ((R4.sets h1 (pc s.f v3) 1).set h1 _).set h1 _
 · exact ((R5.sets h1 (pc s.f v3) 1).set h1 _).set h1 _
theorem AgX.fin {w wr:World} {s:St} {v3 v4 v5 kv:Value} (h:AgX w s v3 v4 v5 kv wr) (hk:FrFresh wr (w.heap.size + 2) s.k.l kv) (vs:List Value) (hv:vs = (stA s v3 v4 v5 kv).toList) :
   Own (wr.setCells (w.heap.size + 1) 0 vs) (w.heap.size + 1) vs.toArray 43 ∧ LPF (wr.setCells (w.heap.size + 1) 0 vs) w.heap.size s.f v3 ∧ RowF (wr.setCells (w.heap.size + 1) 0 vs) w.heap.size s.store v4 ∧ RowF (wr.setCells (w.heap.size + 1) 0 vs) w.heap.size s.out v5 ∧ FrFresh (wr.setCells (w.heap.size + 1) 0 vs) w.heap.size s.k.l kv ∧ Below w.heap.size w (wr.setCells (w.heap.size + 1) 0 vs):=by
 have hb:w.heap.size + 1 < w.heap.size + 2:=by omega
 exact ⟨h.t.sets vs (by rw [hv];rfl),(h.f.setsAt hb vs 0).mono' (by omega),(h.st.sets hb vs 0).mono (by omega),(h.ou.sets hb vs 0).mono (by omega),(hk.sets hb vs 0).mono (by omega),zab (b:=w.heap.size + 1) (by omega) vs 0 h.b⟩
theorem zpr {l:List Fr} {f:Fr} (h:f ∈ l):f.ids.length ≤ (zaf l).length:=by
 induction l with
 | nil=>cases h
 | cons a l ih =>
   simp only [zaf,List.flatMap_cons,List.length_append]
   rcases List.mem_cons.1 h with e | h
   · subst e;omega
   · have:=ih h;simp only [zaf] at this;omega
structure AgS (X:World) (B:Nat) (l:List Fr) (U:Nat → Value) (rv:Value) (g k:Nat) (U':Nat → Value) (wr:World):Prop where
 e:X.heap.size = B
 b:Below B X wr
 row:wr.ownsRow B 105 9 rv l.length (frCs U' 0 l)
 done:∀ i f,i < k → l[i]? = some f → OwnT wr (g + 1) f.ids (U' i)
 left:∀ i,k ≤ i → U' i = U i
theorem z1k {w:World} {B g len c k:Nat} {l:List Fr} {U:Nat → Value} {f:Fr} (h:w.ownsRow B 105 9 (.slice (some ⟨g,0,none⟩) len c) len (frCs U 0 l)) (hlen:l.length = len) (hf:l[k]? = some f):w.cell? ⟨g,k * 9,none⟩ = some (U k):=by
 have hk:=posA hf
 have e:=zck U 0 l k f hf 0 (by omega)
 rw [Nat.add_zero,Nat.zero_add] at e
 rw [h.cellAt (k * 9) (by omega),e]
 rfl
def z0v (X:World) (B:Nat) (l:List Fr) (len:Nat) (U:Nat → Value) (rv:Value) (g:Nat) (i:Value) (wr:World):Prop :=
 ∃ (k:Nat) (U':Nat → Value),k ≤ len ∧ i = .int .i64 k ∧ Hid (AgS X B l U rv g k U' wr)
theorem AgS.step {X wr w8:World} {B:Nat} {l:List Fr} {U U':Nat → Value} {len cap g k:Nat} {f:Fr} {u8:Value} {C:Array Value} {T:TypeId} (h:AgS X B l U (.slice (some ⟨g,0,none⟩) len cap) g k U' wr) (hlen:l.length = len) (hf:l[k]? = some f)
   (hL:OwnT w8 (wr.alloc (.cells C T)).drew.heap.size f.ids u8) (hb:Below (wr.alloc (.cells C T)).drew.heap.size (wr.alloc (.cells C T)).drew w8):AgS X B l U (.slice (some ⟨g,0,none⟩) len cap) g (k + 1) (updU U' k u8) (w8.setCell ⟨g,k * 9,none⟩ u8):=by
 have hk:=posA hf
 have hb':Below wr.heap.size wr w8:=(((Below.refl wr.heap.size wr).alloc (Nat.le_refl _) _).drew).trans (hb.mono (by simp))
 have hg:=h.row.lt g rfl
 have hs:(wr.alloc (.cells C T)).drew.heap.size = wr.heap.size + 1:=by simp
 subst hlen
 refine ⟨h.e,?_,?_,?_,?_⟩
 · exact (h.b.trans (hb'.mono (by have:=h.b.size;have:=h.e;omega))).setCell (p:=⟨g,k * 9,none⟩) hg.1 _
 · have e:=znu U' l 0 k f f u8 hf rfl
   rw [Nat.zero_add,ze8 hf] at e
   rw [e]
   exact zlf (zau h.row hb') u8 (by omega)
 · intro i p hi hp
   rcases Decidable.em (i = k) with e | e
   · subst e
     rw [hf] at hp;cases hp
     rw [zcb]
     exact ownsRow_setCell_below (a:=⟨g,i * 9,none⟩) ((OwnT.mono hL (by rw [hs];omega:g + 1 ≤ _))) (by show g < g + 1;omega) _
   · rw [zbl _ _ e]
     exact ownsRow_setCell_below (a:=⟨g,k * 9,none⟩) (OwnT.later (h.done i p (by omega) hp) hb') (by show g < g + 1;omega) _
 · intro i hi
   rw [zbl _ _ (by omega)]
   exact h.left i (by omega)
theorem zdb (s:St) (fv sv ov kv:Value) (w:World) (hS:StW w s fv sv ov kv) (hf:s.f.size ≤ 1000) (h1:s.store.length ≤ 1000) (h2:s.out.length ≤ 1000) (h3:s.k.l.length ≤ 10000) (h4:(zaf s.k.l).length ≤ 10000) :
   Calls Tryz.prog 69 #[stV s fv sv ov kv] w fun e w'=>∃ fv' sv' ov' kv',e = .returned (stV s fv' sv' ov' kv') ∧ LPF w' w.heap.size s.f fv' ∧ RowF w' w.heap.size s.store sv' ∧ RowF w' w.heap.size s.out ov' ∧ FrFresh w' w.heap.size s.k.l kv' ∧ Below w.heap.size w w':=by
 have CF:=fun w' h=>y38h (zdq s.f fv w' h hf)
 have C1:=fun w' h=>y38h (ze0 s.store sv w' h (by omega))
 have C2:=fun w' h=>y38h (ze0 s.out ov w' h (by omega))
 have HO1:=y38h hS.ls.oks
 have HO2:=y38h hS.lo.oks
 have HOK:=y38h hS.lk.fr_ok
 obtain ⟨of_,cf,rfl⟩:=zal hS.lf
 obtain ⟨os,cs,rfl⟩:=hS.ls.val
 obtain ⟨oo,co,rfl⟩:=hS.lo.val
 obtain ⟨U,ok,ck,bk,okk,rfl,hF⟩:=hS.lk
 have HF:=y38h hF
 clear hF
 have OA:=y38h ((Own.new w (stA s (.slice of_ s.f.kids.length cf) (.slice os s.store.length cs) (.slice oo s.out.length co) (.slice ok s.k.l.length ck)) 43).alloc (.cells stZ.toArray 43))
 have OT:=y38h (Own.newAt (w.alloc (.cells (stA s (.slice of_ s.f.kids.length cf) (.slice os s.store.length cs) (.slice oo s.out.length co) (.slice ok s.k.l.length ck)) 43)) stZ.toArray 43 (b:=w.heap.size + 1) (by simp))
 have BEL:=y38h (((Below.refl w.heap.size w).alloc (Nat.le_refl _) (.cells (stA s (.slice of_ s.f.kids.length cf) (.slice os s.store.length cs) (.slice oo s.out.length co) (.slice ok s.k.l.length ck)) 43)).alloc (by simp) (.cells stZ.toArray 43))
 have HS:=y38h ((hS.alloc (.cells (stA s (.slice of_ s.f.kids.length cf) (.slice os s.store.length cs) (.slice oo s.out.length co) (.slice ok s.k.l.length ck)) 43)).alloc (.cells stZ.toArray 43))
 have HS0:=y38h hS
 clear hS
 go_enter Tryz.func69,Tryz.ntmps69
 go_upto_region 1 with fail
 replace OA:=y38h OA.out.drew
 replace OT:=y38h OT.out.drew
 replace BEL:=y38h BEL.out.drew
 replace HS:=y38h HS.out.drew
 refine zrx (S:=(fun w'=>∀ o,w'.cell? ⟨w.heap.size,o,none⟩ = (stA s (.slice of_ s.f.kids.length cf) (.slice os s.store.length cs) (.slice oo s.out.length co) (.slice ok s.k.l.length ck))[o]?)) (D:=fun j=>decide (9 ≤ j)) (by kernel_rfl) (by exact OA.out.cell) (fun hHeld=>?_)
 refine zdm (i:=0) (v:=?_) rfl (by kernel_rfl) (by kernel_rfl) (by kernel_rfl) (by kernel_rfl) (fun _ _ _ h=>h) (Or.inl ⟨by rfl,?_⟩) (by assumption) ?_
 rotate_left 1
 · (intro w hSw;(try dsimp only at hSw);go_simp;try with_reducible rfl)
 try simp only [Act.put,y38a,y38b,y38c,y38d,y38e,y38f]
 refine zdm (i:=1) (v:=?_) rfl (by kernel_rfl) (by kernel_rfl) (by kernel_rfl) (by kernel_rfl) (fun _ _ _ h=>h) (Or.inl ⟨by rfl,?_⟩) (by assumption) ?_
 rotate_left 1
 · (intro w hSw;(try dsimp only at hSw);go_simp;try with_reducible rfl)
 try simp only [Act.put,y38a,y38b,y38c,y38d,y38e,y38f]
 refine zdm (i:=3) (v:=?_) rfl (by kernel_rfl) (by kernel_rfl) (by kernel_rfl) (by kernel_rfl) (fun _ _ _ h=>h) (Or.inl ⟨by rfl,?_⟩) (by assumption) ?_
 rotate_left 1
 · (intro w hSw;(try dsimp only at hSw);go_simp;try with_reducible rfl)
 try simp only [Act.put,y38a,y38b,y38c,y38d,y38e,y38f]
 refine zdm (i:=4) (v:=?_) rfl (by kernel_rfl) (by kernel_rfl) (by kernel_rfl) (by kernel_rfl) (fun _ _ _ h=>h) (Or.inl ⟨by rfl,?_⟩) (by assumption) ?_
 rotate_left 1
 · (intro w hSw;(try dsimp only at hSw);go_simp;try with_reducible rfl)
 try simp only [Act.put,y38a,y38b,y38c,y38d,y38e,y38f]
 refine zdm (i:=6) (v:=?_) rfl (by kernel_rfl) (by kernel_rfl) (by kernel_rfl) (by kernel_rfl) (fun _ _ _ h=>h) (Or.inl ⟨by rfl,?_⟩) (by assumption) ?_
 rotate_left 1
 · (intro w hSw;(try dsimp only at hSw);go_simp;try with_reducible rfl)
 try simp only [Act.put,y38a,y38b,y38c,y38d,y38e,y38f]
 refine zdm (i:=7) (v:=?_) rfl (by kernel_rfl) (by kernel_rfl) (by kernel_rfl) (by kernel_rfl) (fun _ _ _ h=>h) (Or.inl ⟨by rfl,?_⟩) (by assumption) ?_
 rotate_left 1
 · (intro w hSw;(try dsimp only at hSw);go_simp;try with_reducible rfl)
 try simp only [Act.put,y38a,y38b,y38c,y38d,y38e,y38f]
 refine zdx (i:=2) (by kernel_rfl) rfl (fun K hK=>?_)
 try simp only [y38a,y38b,y38c]
 (go_simp;go_at_call 46;refine (CF _ HS.out.lf).out.mono ?_;rintro e w3 ⟨v3,rfl,hl3,hb⟩;obtain ⟨o3,c3,rfl⟩:=zal hl3.lp;have L3:=y38h (hl3.mono' (B':=w.heap.size + 2) (by have:=OT.out.lt;omega));replace OA:=y38h (OA.out.later hb);replace OT:=y38h (OT.out.later hb);replace BEL:=y38h (BEL.out.trans (hb.mono BEL.out.size));replace HS:=y38h (HS.out.later hb);clear hl3 hb)
 try go_wp2_with fail
 refine hK.out _ _ (fun _=>(by exact OA.out.cell)) (fun hHeld'=>?_)
 have hHeld:=hHeld' (by rfl)
 clear hK K hHeld'
 try simp only [Act.put,y38a,y38b,y38c,y38d,y38e,y38f]
 refine zhv (i:=9) (v:=?_) rfl (by kernel_rfl) (by kernel_rfl) (by kernel_rfl) (by kernel_rfl) (fun _ _ _ h=>h) (Or.inl ⟨by rfl,?_⟩) ?_
 rotate_left 1
 · (intro w _;go_simp;try with_reducible rfl)
 try simp only [Act.put,y38a,y38b,y38c,y38d,y38e,y38f]
 refine zdx (i:=5) (by kernel_rfl) rfl (fun K hK=>?_)
 try simp only [y38a,y38b,y38c]
 (go_simp;go_at_call 56;refine (C1 _ HS.out.ls).out.mono ?_;rintro e w4 ⟨v4,rfl,ho4,hb⟩;obtain ⟨o4,c4,rfl⟩:=ho4.len;have R4:=y38h ((OwnI.rowF ho4 HO1.out).mono (B':=w.heap.size + 2) (by have:=OT.out.lt;omega));replace L3:=y38h (L3.out.later hb);replace OA:=y38h (OA.out.later hb);replace OT:=y38h (OT.out.later hb);replace BEL:=y38h (BEL.out.trans (hb.mono BEL.out.size));replace HS:=y38h (HS.out.later hb);clear ho4 hb)
 try go_wp2_with fail
 refine hK.out _ _ (fun _=>(by exact OA.out.cell)) (fun hHeld'=>?_)
 have hHeld:=hHeld' (by rfl)
 clear hK K hHeld'
 try simp only [Act.put,y38a,y38b,y38c,y38d,y38e,y38f]
 refine zdx (i:=8) (by kernel_rfl) rfl (fun K hK=>?_)
 try simp only [y38a,y38b,y38c]
 (go_simp;go_at_call 56;refine (C2 _ HS.out.lo).out.mono ?_;rintro e w5 ⟨v5,rfl,ho5,hb⟩;obtain ⟨o5,c5,rfl⟩:=ho5.len;have R5:=y38h ((OwnI.rowF ho5 HO2.out).mono (B':=w.heap.size + 2) (by have:=OT.out.lt;omega));replace L3:=y38h (L3.out.later hb);replace R4:=y38h (R4.out.later hb);replace OA:=y38h (OA.out.later hb);replace OT:=y38h (OT.out.later hb);replace BEL:=y38h (BEL.out.trans (hb.mono BEL.out.size));replace HS:=y38h (HS.out.later hb);clear ho5 hb)
 try go_wp2_with fail
 refine hK.out _ _ (fun _=>(by exact OA.out.cell)) (fun hHeld'=>?_)
 have hHeld:=hHeld' (by rfl)
 clear hK K hHeld'
 try simp only [Act.put,y38a,y38b,y38c,y38d,y38e,y38f]
 have AX:Hid (AgX w s (.slice o3 s.f.kids.length c3) (.slice o4 s.store.length c4) (.slice o5 s.out.length c5) (.slice ok s.k.l.length ck) (((w5.setCells w.heap.size 1 [.int .i64 s.f.op,.string s.f.text,.int .i64 s.f.n,.complex .f64 s.f.x s.f.y,.slice o3 s.f.kids.length c3]).setCell ⟨w.heap.size,6,none⟩ (.slice o4 s.store.length c4)).setCell ⟨w.heap.size,7,none⟩ (.slice o5 s.out.length c5))):=y38h (zsw OA.out OT.out BEL.out L3.out R4.out R5.out)
 refine zdx (i:=10) (by kernel_rfl) rfl (fun K hK=>?_)
 try simp only [y38a,y38b,y38c]
 first | rw [if_pos (by rfl)] | skip
 refine wp_store_mid 40 _ _ rfl w.heap.size 1 #[.int .i64 s.f.op,.string s.f.text,.int .i64 s.f.n,.complex .f64 s.f.x s.f.y,.slice o3 s.f.kids.length c3] (by rfl) (by rfl) (OA.out.thereAt 1 5 (by simp)) (by kernel_rfl) (by simp [Value.oneCell']) ?_
 refine hK.out _ _ (fun h=>by cases h) (fun _=>?_)
 clear hK K
 try simp only [Act.put,y38a,y38b,y38c,y38d,y38e,y38f]
 have O1:Hid (Own (w5.setCells w.heap.size 1 [.int .i64 s.f.op,.string s.f.text,.int .i64 s.f.n,.complex .f64 s.f.x s.f.y,.slice o3 s.f.kids.length c3]) w.heap.size (stA s (.slice o3 s.f.kids.length c3) (.slice os s.store.length cs) (.slice oo s.out.length co) (.slice ok s.k.l.length ck)) 43):=y38h (agA OA.out (.slice o3 s.f.kids.length c3))
 have l1:=O1.out.cell
 have f1:=O1.out.free
 have z1:=O1.out.lt
 refine zhv (i:=11) (v:=?_) rfl (by kernel_rfl) (by kernel_rfl) (by kernel_rfl) (by kernel_rfl) (fun _ _ _ h=>h) (Or.inl ⟨by rfl,?_⟩) ?_
 rotate_left 1
 · (intro w _;go_simp;try with_reducible rfl)
 try simp only [Act.put,y38a,y38b,y38c,y38d,y38e,y38f]
 refine zdx (i:=12) (by kernel_rfl) rfl (fun K hK=>?_)
 try simp only [y38a,y38b,y38c]
 first | rw [if_pos (by rfl)] | skip
 go_simp
 refine hK.out _ _ (fun h=>by cases h) (fun _=>?_)
 clear hK K
 try simp only [Act.put,y38a,y38b,y38c,y38d,y38e,y38f]
 have O2:Hid (Own ((w5.setCells w.heap.size 1 [.int .i64 s.f.op,.string s.f.text,.int .i64 s.f.n,.complex .f64 s.f.x s.f.y,.slice o3 s.f.kids.length c3]).setCell ⟨w.heap.size,6,none⟩ (.slice o4 s.store.length c4)) w.heap.size (stA s (.slice o3 s.f.kids.length c3) (.slice o4 s.store.length c4) (.slice oo s.out.length co) (.slice ok s.k.l.length ck)) 43):=y38h (by have:=O1.out.set 6 (.slice o4 s.store.length c4);exact this)
 clear l1 f1 z1
 have l2:=O2.out.cell
 have f2:=O2.out.free
 have z2:=O2.out.lt
 refine zhv (i:=13) (v:=?_) rfl (by kernel_rfl) (by kernel_rfl) (by kernel_rfl) (by kernel_rfl) (fun _ _ _ h=>h) (Or.inl ⟨by rfl,?_⟩) ?_
 rotate_left 1
 · (intro w _;go_simp;try with_reducible rfl)
 try simp only [Act.put,y38a,y38b,y38c,y38d,y38e,y38f]
 refine zdx (i:=14) (by kernel_rfl) rfl (fun K hK=>?_)
 try simp only [y38a,y38b,y38c]
 first | rw [if_pos (by rfl)] | skip
 go_simp
 refine hK.out _ _ (fun h=>by cases h) (fun _=>?_)
 clear hK K
 try simp only [Act.put,y38a,y38b,y38c,y38d,y38e,y38f]
 refine ztz (by kernel_rfl) ?_ _
 clear l2 f2 z2 O1 O2 OA OT BEL L3 R4 R5 HS hHeld
 revert AX
 generalize World.setCell (World.setCell (World.setCells _ _ _ _) _ _) _ _ = X1
 intro AX
 have CF9:=y38h (zng s.k.l U ok ck bk okk X1 (HF.out.later AX.out.b (Nat.le_refl _)) (by omega))
 have l1:=AX.out.a.cell
 have f1:=AX.out.a.free
 have z1:=AX.out.a.lt
 go_upto_region 3 with (go_at_call 115;refine CF9.out.mono ?_;rintro e w9 ⟨v9,rfl,hr9,hb9⟩;have HR9:=y38h hr9;obtain ⟨o9,c9,g,rfl,r1,r2,r3⟩:=zan hr9;clear l1 f1 z1 hr9;have A9:=y38h (AX.out.a.later hb9);have HB9:=y38h hb9;have HG:=y38h r3;have l1:=A9.out.cell;have f1:=A9.out.free;have z1:=A9.out.lt;clear hb9 r3)
 unfold maxLen at r2
 clear l1 f1 z1 CF9 A9
 have AY:=y38h (AX.out.setK (.slice o9 s.k.l.length c9))
 have AS:Hid (AgS (X1.setCell ⟨w.heap.size,16,none⟩ (.slice o9 s.k.l.length c9)) X1.heap.size s.k.l U (.slice o9 s.k.l.length c9) g 0 U (w9.setCell ⟨w.heap.size,16,none⟩ (.slice o9 s.k.l.length c9))):=y38h ⟨by simp [World.setCell],zrb HB9.out (p:=⟨w.heap.size,16,none⟩) AX.out.a.lt (Nat.le_refl _) _,ownsRow_setCell_below HR9.out AX.out.a.lt _,fun i f hi=>absurd hi (by omega),fun _ _=>rfl⟩
 have zX:=y38h (show w.heap.size + 2 ≤ X1.heap.size from by have:=AX.out.t.lt;omega)
 clear AX HB9 HR9
 revert AY AS
 generalize World.setCell w9 _ _ = W2
 generalize World.setCell X1 _ _ = X
 intro AY AS
 generalize X1.heap.size = B at *
 have aw:=AY.out.a.below AS.out.b (by have:=zX.out;omega)
 have l1:=aw.cell
 have z1:=aw.lt
 clear aw
 generalize hlen:s.k.l.length = len at *
 have HLEN:=y38h hlen
 clear hlen
 go_wp2_with fail
 go_loopw [27] (fun i wr=>z0v X B s.k.l len U (.slice o9 len c9) g i wr) (fun i _=>len - (intOf i).toNat)
 case atStart=>exact ⟨0,U,Nat.zero_le _,rfl,AS⟩
 case round =>
   clear AS l1 z1
   obtain ⟨k,U',hk,rfl,AS⟩:=hrel
   have OX0:=y38h (AY.out.a.below AS.out.b (by have:=zX.out;omega))
   by_cases hlt:k < len
   · obtain ⟨f,hf⟩:∃ f,s.k.l[k]? = some f:=⟨_,List.getElem?_eq_getElem (by rw [HLEN.out];exact hlt)⟩
     obtain ⟨rfl,_,_⟩:=HG.out (by omega)
     have hrow:=AS.out.row
     rw [HLEN.out] at hrow
     have zg:B ≤ g ∧ g < wr.heap.size:=hrow.lt g rfl
     have hT:=(HF.out.ids k f hf).later (AY.out.b.trans (AS.out.b.mono (by have:=zX.out;omega))) (Nat.le_refl _)
     obtain ⟨ou,cu,hU⟩:=hT.val
     have hUk:U' k = .slice ou f.ids.length cu:=(AS.out.left k (Nat.le_refl _)).trans hU
     obtain ⟨c0,c1,c2,c3',c4',c5',c6,c7,c8⟩:=zbd (w:=wr) (f:=f) (u:=U' k) (b:=g) (o:=k * 9) (fun j z hz=>by
       have hj:j < 9:=(List.getElem?_eq_some_iff.1 hz).1
       rw [hrow.cellAt (k * 9 + j) (by omega),zck _ _ _ _ _ hf _ hj,Nat.zero_add]
       exact hz)
     rw [hUk] at c0
     rw [hU] at hT
     have hlen9:=zpr (List.mem_of_getElem? hf)
     have CC:=y38h (zni f.ids (.slice ou f.ids.length cu) (wr.alloc (.cells #[.slice ou f.ids.length cu,.int .i64 (f.v 0),.int .i64 (f.v 1),.int .i64 (f.v 2),.int .i64 (f.v 3),.int .i64 (f.v 4),.int .i64 (f.v 5),.int .i64 (f.v 6),.int .i64 (f.v 7)] 105)).drew (hT.later (((Below.refl wr.heap.size wr).alloc (Nat.le_refl _) _).drew) (Nat.le_refl _)) (by omega))
     have OX:=y38h (OX0.out.alloc (.cells #[.slice ou f.ids.length cu,.int .i64 (f.v 0),.int .i64 (f.v 1),.int .i64 (f.v 2),.int .i64 (f.v 3),.int .i64 (f.v 4),.int .i64 (f.v 5),.int .i64 (f.v 6),.int .i64 (f.v 7)] 105))
     have OQ:=y38h (Own.new wr #[.slice ou f.ids.length cu,.int .i64 (f.v 0),.int .i64 (f.v 1),.int .i64 (f.v 2),.int .i64 (f.v 3),.int .i64 (f.v 4),.int .i64 (f.v 5),.int .i64 (f.v 6),.int .i64 (f.v 7)] 105)
     have HROW:=y38h hrow
     have HF2:=y38h hf
     have HUK:=y38h hUk
     have hg1:w.heap.size ≠ g:=by have:=zX.out;omega
     have hg3:wr.heap.size ≠ g:=by omega
     have zg1:=zg.2
     clear hT hU hUk hlen9 hrow
     go_upto_region 6 with fail
     clear c0 c1 c2 c3' c4' c5' c6 c7 c8
     go_region_held3 (fun w'=>(∀ o,w'.cell? ⟨w.heap.size,o,none⟩ = ((stA s (.slice o3 s.f.kids.length c3) (.slice o4 s.store.length c4) (.slice o5 s.out.length c5) (.slice (some ⟨g,0,none⟩) len c9)):Array Value)[o]?) ∧ (∀ o,w'.cell? ⟨wr.heap.size,o,none⟩ = (#[.slice ou f.ids.length cu,.int .i64 (f.v 0),.int .i64 (f.v 1),.int .i64 (f.v 2),.int .i64 (f.v 3),.int .i64 (f.v 4),.int .i64 (f.v 5),.int .i64 (f.v 6),.int .i64 (f.v 7)]:Array Value)[o]?)) (first | with_reducible exact ⟨OX8.out.cell,OQ8.out.cell⟩ | with_reducible exact ⟨(OX8.out.setFar ⟨g,k * 9,none⟩ _ hg1).cell,(OQ8.out.setFar ⟨g,k * 9,none⟩ _ hg3).cell⟩ | with_reducible exact ⟨OX.out.cell,OQ.out.cell⟩ | with_reducible exact ⟨OX.out.drew.cell,OQ.out.drew.cell⟩) (first
       | (go_simp;go_at_call 116;(with_reducible refine CC.out.mono ?_);rintro e w8 ⟨v8,rfl,hL8,hb8⟩;obtain ⟨o8,c8,rfl⟩:=hL8.val;have OX8:=y38h (OX.out.drew.later hb8);have OQ8:=y38h (OQ.out.drew.later hb8);have hb9:Below wr.heap.size wr w8:=(((Below.refl wr.heap.size wr).alloc (Nat.le_refl _) _).drew).trans (hb8.mono (by simp));have hrow8:=zau HROW.out hb9;have fg:=zd0 hrow8 (k * 9);have zg8:=(hrow8.lt g rfl).2;have e0:=z1k hrow8 HLEN.out HF2.out;rw [HUK.out] at e0;clear hrow8;have HL8:=y38h hL8;have HB8:=y38h hb8;clear hL8 hb8 hb9)
       | fail)
     have KEY:Hid (AgS X B s.k.l U (.slice (some ⟨g,0,none⟩) len c9) g (k + 1) (updU U' k (.slice o8 f.ids.length c8)) (w8.setCell ⟨g,k * 9,none⟩ (.slice o8 f.ids.length c8))):=y38h (AgS.step AS.out HLEN.out HF2.out HL8.out HB8.out)
     clear e0 fg zg8 OX8 OQ8 HL8 HB8 CC OX OQ AS OX0
     revert KEY
     generalize World.setCell w8 _ _ = W5
     intro KEY
     go_wp2_with fail
     go_roundw
     case rel=>exact ⟨k + 1,_,by omega,by go_num,KEY⟩
     case measure=>simp [intOf];omega
   · have e:k = len:=by omega
     subst e
     have hrow:=AS.out.row
     have FF:=y38h ((zrn hrow (fun i f hf=>AS.out.done i f (by have:=posA hf;have:=HLEN.out;omega) hf) (fun h0=>Nat.le_succ_of_le (HG.out (by have:=HLEN.out;omega)).2.1) HOK.out).mono zX.out)
     have AW:=AY.out.later (AS.out.e ▸ AS.out.b)
     have HK:=y38h (AW.fin FF.out ((stA s (.slice o3 s.f.kids.length c3) (.slice o4 s.store.length c4) (.slice o5 s.out.length c5) (.slice o9 k c9))).toList rfl)
     have OAR:=y38h AW.a
     have OTR:=y38h AW.t
     clear AY AW FF AS OX0 hrow
     go_wp2_with (first | (refine wpList_load_mid (by rfl) 43 _ (by rfl) w.heap.size 0 (by rfl) ((stA s (.slice o3 s.f.kids.length c3) (.slice o4 s.store.length c4) (.slice o5 s.out.length c5) (.slice o9 k c9))).toList _ OAR.out.range Tryz.underlying43 (by rfl) (by kernel_rfl) ?_) | (refine wpList_store_mid (by rfl) 43 _ _ (by rfl) (w.heap.size + 1) 0 ((stA s (.slice o3 s.f.kids.length c3) (.slice o4 s.store.length c4) (.slice o5 s.out.length c5) (.slice o9 k c9))) (by rfl) (by rfl) (OTR.out.there (by rfl)) (by kernel_rfl) (by simp [Value.oneCell']) ?_) | fail)
     revert HK
     generalize World.setCells _ _ _ _ = WW
     intro HK
     exact zgr (by rfl) (by rfl) (l:=((stA s (.slice o3 s.f.kids.length c3) (.slice o4 s.store.length c4) (.slice o5 s.out.length c5) (.slice o9 k c9))).toList) HK.out.1.range Tryz.underlying43 (by rfl) (by kernel_rfl) rfl ⟨_,_,_,_,rfl,HK.out.2⟩
end Go.Proofs.YthnllikalobmeaaGreat
