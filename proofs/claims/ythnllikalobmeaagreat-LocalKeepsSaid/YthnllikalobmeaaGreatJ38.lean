/- Joined: StGood3, LocG, LocV, LocWant. -/
import Derived.Test.YthnllikalobmeaaGreatJ37
import Derived.Test.YthnllikalobmeaaGreatJ35
import Derived.Test.YthnllikalobmeaaGreatJ10
import Derived.Test.YthnllikalobmeaaGreatJ36
import Derived.Test.YthnllikalobmeaaGreatJ22
import Derived.Test.YthnllikalobmeaaGreatJ33
namespace Go.Proofs.YthnllikalobmeaaGreat
set_option linter.unusedVariables false
set_option linter.unusedSimpArgs false
set_option maxRecDepth 100000
set_option maxHeartbeats 8000000
open Go.RowKit
abbrev y38a:=@List.getElem_toArray
abbrev y38b:=@List.getElem_cons_zero
abbrev y38c:=@List.getElem_cons_succ
abbrev y38d:=@List.setIfInBounds_toArray
abbrev y38e:=@List.set_cons_zero
abbrev y38f:=@List.set_cons_succ
theorem y38h {p:Prop} (h:p):Hid p:=Lib.hid h
theorem zie {s:St} {x:Itm} (h:Good s) (hx:mayT x = true) (hf:zb0 s = false):mayT (zai s x) = true:=by
 obtain ⟨h1,h2,_,_,_,h6,h7⟩:=mayT_iff.1 hx
 obtain ⟨hc,ht⟩:=zmb h hf
 have:=h.c
 have:=h.t
 refine mayT_iff.2 ⟨h1,h2,h.r,?_,?_,h6,h7⟩
 · show 1 ≤ s.count + 1 ∧ s.count + 1 ≤ 1000;omega
 · show 1 ≤ s.clock + 1 ∧ s.clock + 1 ≤ 1000000;omega
theorem zwf {s:St} {x:Itm} (h:creE s x = 0):mayT x = true ∧ zb0 s = false ∧ ((zad s x.id).2 = true ∨ s.store.length + s.out.length ≠ 40):=by
 unfold creE at h
 split at h
 · rename_i h1
   split at h
   · cases h
   · split at h
     · cases h
     · rename_i h3
       split at h
       · cases h
       · rename_i h4
         refine ⟨h1,by simpa using h4,?_⟩
         cases q:(zad s x.id).2 with
         | true=>exact .inl rfl
         | false=>exact .inr fun e=>h3 ⟨q,e⟩
 · cases h
theorem zw9 {s:St} {x:Itm} (h:updE s x = 0):mayT x = true ∧ zb0 s = false ∧ (zad s x.id).2 = true:=by
 unfold updE at h
 split at h
 · rename_i h1
   split at h
   · rename_i h2
     split at h
     · cases h
     · rename_i h4;exact ⟨h1,by simpa using h4,h2.1⟩
   · cases h
 · cases h
theorem zqu {s:St} {id:ByteArray} (h:delE s id = 0):zax id = true ∧ zb0 s = false ∧ (zad s id).2 = true ∧ (zad s id).1.d = false:=by
 unfold delE at h
 split at h
 · rename_i h1
   split at h
   · rename_i h2
     split at h
     · cases h
     · rename_i h4;exact ⟨h1,by simpa using h4,h2.1,h2.2⟩
   · cases h
 · cases h
theorem zlx {s:St} {x:Itm} (h:Good s):Good (creS s x):=by
 unfold creS
 split
 · rename_i e
   obtain ⟨h1,h2,h3⟩:=zwf e
   refine zgv h (zie h h1 h2) h2 (h3.imp id fun q=>?_)
   have:=h.n;omega
 · exact h
theorem zua {s:St} {x:Itm} (h:Good s):Good (updS s x):=by
 unfold updS
 split
 · rename_i e
   obtain ⟨h1,h2,h3⟩:=zw9 e
   exact zgv h (zie h h1 h2) h2 (.inl h3)
 · exact h
theorem zsv {i:Itm} (h:mayT i = true):mayT (ziy i) = true:=h
theorem zsw {s:St} {id:ByteArray} (h:Good s):Good (delS s id):=by
 unfold delS
 split
 · rename_i e
   obtain ⟨_,h2,h3,_⟩:=zqu e
   obtain ⟨m1,m2⟩:=zf7 h h3
   refine zgv h (zie h (zsv m1) h2) h2 (.inl ?_)
   show (zad s (zad s id).1.id).2 = true
   rw [m2];exact h3
 · exact h
theorem zqx {s:St} {f:Pr} (h:Good s):Good (filS s f):=by
 unfold filS
 split
 · rename_i e;exact zs0 h e
 · exact h
theorem zjt {s:St} (h:Good s) (d:De):Good (doS s d):=by
 unfold doS
 split
 · exact zlx h
 · split
   · exact zua h
   · split
     · exact zsw h
     · exact zqx h
theorem zwi {s:St} {d:De} (h:doE s d ≠ 0):doS s d = s:=by
 unfold doE at h
 unfold doS
 split
 · rename_i q;rw [if_pos q] at h;unfold creS;rw [if_neg h]
 · rename_i q
   rw [if_neg q] at h
   split
   · rename_i q2;rw [if_pos q2] at h;unfold updS;rw [if_neg h]
   · rename_i q2
     rw [if_neg q2] at h
     split
     · rename_i q3;rw [if_pos q3] at h;unfold delS;rw [if_neg h]
     · rename_i q3;rw [if_neg q3] at h;unfold filS;rw [if_neg h]
theorem zn8 {s:St} {d:De} (hG:Good s) (h:doE s d = 0) (hp:za0 d.what ≠ 3):∃ x,doS s d = zas s x ∧ x.id = d.id ∧ x.d = decide (za0 d.what = 2):=by
 have hp4:=zom d.what
 unfold doE at h
 unfold doS
 split
 · rename_i q
   rw [if_pos q] at h
   exact ⟨_,by unfold creS;rw [if_pos h],rfl,by rw [q];rfl⟩
 · rename_i q
   rw [if_neg q] at h
   split
   · rename_i q2
     rw [if_pos q2] at h
     exact ⟨_,by unfold updS;rw [if_pos h],rfl,by rw [q2];rfl⟩
   · rename_i q2
     rw [if_neg q2] at h
     split
     · rename_i q3
       rw [if_pos q3] at h
       refine ⟨ziy (zad s d.id).1,by unfold delS;rw [if_pos h],(zf7 hG (zqu h).2.2.1).2,by rw [q3];rfl⟩
     · rename_i q3;exfalso;omega
theorem zwj {s:St} {d:De} (h:doE s d = 0) (hp:za0 d.what = 3):doS s d = filF s d.f:=by
 unfold doE at h
 unfold doS
 rw [hp] at h ⊢
 simp only [show ((3:Int) = 0) = False by simp,show ((3:Int) = 1) = False by simp,show ((3:Int) = 2) = False by simp,if_false] at h ⊢
 unfold filS;rw [if_pos h]
theorem zge {w w':World} {base size n:Nat} {e:TypeId} {v:Value} {xs:List Value} (h:w.ownsRow base e size v n xs) (hb:∀ b,base ≤ b → b < w.heap.size → w'.heap[b]? = w.heap[b]?):w'.ownsRow base e size v n xs:=by
 obtain ⟨h1,h2⟩:=h
 refine ⟨h1,?_⟩
 rcases h2 with h2 | ⟨g,cap,cur,hv,hg,hh,r⟩
 · exact .inl h2
 · have hlt:g < w.heap.size:=by
     rcases Nat.lt_or_ge g w.heap.size with hlt | hge
     · exact hlt
     · rw [Array.getElem?_eq_none hge] at hh;cases hh
   exact .inr ⟨g,cap,cur,hv,hg,(hb g hg hlt).trans hh,r⟩
theorem zpf {w:World} {B B':Nat} {l:List Fr} {U:Nat → Value} {v:Value} (h:w.ownsRow B 105 9 v l.length (frCs U 0 l)) (hi:∀ i f,l[i]? = some f → OwnT w B' f.ids (U i)) (hB:0 < l.length → B ≤ B') (hok:∀ f ∈ l,∀ s ∈ f.ids,s.size ≤ maxLen):FrFresh w B l v:=by
 intro w' h1 h2
 refine zp3 (zge h h1) fun k f hf=>?_
 have hB':=hB (by have:=posA hf;omega)
 exact (OwnT.tx (zge (hi k f hf) fun b hb hlt=>h1 b (by omega) hlt) (hok f (List.mem_of_getElem? hf)))
theorem zo2 {B:Nat} {a b:World} (h:Below B a b) {p:Addr} (hp:p.block < B) (hB:B ≤ a.heap.size) (u:Value):Below B (a.setCell p u) (b.setCell p u):=by
 refine ⟨h.os,h.tape,h.output,by simpa [World.setCell] using h.size,fun k hk=>?_⟩
 rcases Decidable.em (k = p.block) with e | e
 · subst e
   have hb:=h.block _ hk
   simp only [World.setCell,Array.getElem?_modify,if_true,hb]
 · rw [Below.heap_setCell _ _ _ _ e,Below.heap_setCell _ _ _ _ e]
   exact h.block k hk
theorem FrW.fr_ok {w:World} {l:List Fr} {v:Value} (h:FrW w l v):∀ f ∈ l,∀ s ∈ f.ids,s.size ≤ maxLen:=by
 obtain ⟨U,oa,cap,b,o,_,h⟩:=h
 intro f hf s hs
 obtain ⟨k,hk⟩:=List.getElem?_of_mem hf
 exact (h.ids k f hk).ok s hs
structure AgX (w:World) (s:St) (v3 v4 v5 kv:Value) (X:World):Prop where
 a:Own X w.heap.size (stA s v3 v4 v5 kv) 43
 t:Own X (w.heap.size + 1) stZ.toArray 43
 b:Below w.heap.size w X
 f:LPF X (w.heap.size + 2) s.f v3
 st:RowF X (w.heap.size + 2) s.store v4
 ou:RowF X (w.heap.size + 2) s.out v5
theorem AgX.later {w X X':World} {s:St} {v3 v4 v5 kv:Value} (h:AgX w s v3 v4 v5 kv X) (hb:Below X.heap.size X X'):AgX w s v3 v4 v5 kv X' :=
 ⟨h.a.later hb,h.t.later hb,h.b.trans (hb.mono h.b.size),h.f.later hb,h.st.later hb,h.ou.later hb⟩
theorem LPF.setLow {w:World} {B b q:Nat} {p:Pr} {v:Value} (h:LPF w B p v) (hb:b < B) (u:Value):LPF (w.setCell ⟨b,q,none⟩ u) B p v:=h.setsAt hb [u] q
theorem AgX.setK {w X:World} {s:St} {v3 v4 v5 kv:Value} (h:AgX w s v3 v4 v5 kv X) (kv':Value):AgX w s v3 v4 v5 kv' (X.setCell ⟨w.heap.size,16,none⟩ kv') :=
 ⟨by have:=h.a.set 16 kv';exact this,h.t.setFar _ _ (by show w.heap.size + 1 ≠ w.heap.size;omega),h.b.setCell (p:=⟨w.heap.size,16,none⟩) (Nat.le_refl _) _,h.f.setLow (by omega) _,h.st.set (by omega) _,h.ou.set (by omega) _⟩
theorem Own.thereAt {w:World} {b:Nat} {c:Array Value} {t:TypeId} (h:Own w b c t) (o n:Nat) (hn:o + n ≤ c.size):w.there b o n:=fun j hj=>by
 rw [h.cell (o + j)]
 exact ⟨by rw [Array.getElem?_eq_getElem (by omega)];rfl,h.free (o + j)⟩
theorem agA {w5:World} {b:Nat} {s:St} {fv sv ov kv:Value} (h:Own w5 b (stA s fv sv ov kv) 43) (v3:Value):Own (w5.setCells b 1 (pc s.f v3)) b (stA s v3 sv ov kv) 43:=by
 have:=((((h.set 1 (.int .i64 s.f.op)).set 2 (.string s.f.text)).set 3 (.int .i64 s.f.n)).set 4 (.complex .f64 s.f.x s.f.y)).set 5 v3
 exact this
theorem zqi {w w5:World} {s:St} {fv sv ov kv v3 v4 v5:Value} (OA:Own w5 w.heap.size (stA s fv sv ov kv) 43) (OT:Own w5 (w.heap.size + 1) stZ.toArray 43) (BEL:Below w.heap.size w w5) (L3:LPF w5 (w.heap.size + 2) s.f v3) (R4:RowF w5 (w.heap.size + 2) s.store v4) (R5:RowF w5 (w.heap.size + 2) s.out v5) :
   AgX w s v3 v4 v5 kv (((w5.setCells w.heap.size 1 (pc s.f v3)).setCell ⟨w.heap.size,6,none⟩ v4).setCell ⟨w.heap.size,7,none⟩ v5):=by
 have h1:w.heap.size < w.heap.size + 2:=by omega
 refine ⟨?_,?_,?_,?_,?_,?_⟩
 · have:=((agA OA v3).set 6 v4).set 7 v5
   exact this
 · exact ((OT.setsFar (pc s.f v3) 1 (by omega)).setFar _ _ (by show w.heap.size + 1 ≠ w.heap.size;omega)).setFar _ _ (by show w.heap.size + 1 ≠ w.heap.size;omega)
 · exact ((zab (Nat.le_refl _) (pc s.f v3) 1 BEL).setCell (p:=⟨w.heap.size,6,none⟩) (Nat.le_refl _) _).setCell (p:=⟨w.heap.size,7,none⟩) (Nat.le_refl _) _
 · exact ((L3.setsAt h1 (pc s.f v3) 1).setLow h1 _).setLow h1 _
 · exact ((R4.sets h1 (pc s.f v3) 1).set h1 _).set h1 _
 · exact ((R5.sets h1 (pc s.f v3) 1).set h1 _).set h1 _
theorem AgX.fin {w wr:World} {s:St} {v3 v4 v5 kv:Value} (h:AgX w s v3 v4 v5 kv wr) (hk:FrFresh wr (w.heap.size + 2) s.k.l kv) (vs:List Value) (hv:vs = (stA s v3 v4 v5 kv).toList) :
   Own (wr.setCells (w.heap.size + 1) 0 vs) (w.heap.size + 1) vs.toArray 43 ∧ LPF (wr.setCells (w.heap.size + 1) 0 vs) w.heap.size s.f v3 ∧ RowF (wr.setCells (w.heap.size + 1) 0 vs) w.heap.size s.store v4 ∧ RowF (wr.setCells (w.heap.size + 1) 0 vs) w.heap.size s.out v5 ∧ FrFresh (wr.setCells (w.heap.size + 1) 0 vs) w.heap.size s.k.l kv ∧ Below w.heap.size w (wr.setCells (w.heap.size + 1) 0 vs):=by
 have hb:w.heap.size + 1 < w.heap.size + 2:=by omega
 exact ⟨h.t.sets vs (by rw [hv];rfl),(h.f.setsAt hb vs 0).mono' (by omega),(h.st.sets hb vs 0).mono (by omega),(h.ou.sets hb vs 0).mono (by omega),(hk.sets hb vs 0).mono (by omega),zab (b:=w.heap.size + 1) (by omega) vs 0 h.b⟩
theorem znn {l:List Fr} {f:Fr} (h:f ∈ l):f.ids.length ≤ (zah l).length:=by
 induction l with
 | nil=>cases h
 | cons a l ih =>
   simp only [zah,List.flatMap_cons,List.length_append]
   rcases List.mem_cons.1 h with e | h
   · subst e;omega
   · have:=ih h;simp only [zah] at this;omega
structure AgS (X:World) (B:Nat) (l:List Fr) (U:Nat → Value) (rv:Value) (g k:Nat) (U':Nat → Value) (wr:World):Prop where
 e:X.heap.size = B
 b:Below B X wr
 row:wr.ownsRow B 105 9 rv l.length (frCs U' 0 l)
 done:∀ i f,i < k → l[i]? = some f → OwnT wr (g + 1) f.ids (U' i)
 left:∀ i,k ≤ i → U' i = U i
theorem zxx {w:World} {B g len c k:Nat} {l:List Fr} {U:Nat → Value} {f:Fr} (h:w.ownsRow B 105 9 (.slice (some ⟨g,0,none⟩) len c) len (frCs U 0 l)) (hlen:l.length = len) (hf:l[k]? = some f):w.cell? ⟨g,k * 9,none⟩ = some (U k):=by
 have hk:=posA hf
 have e:=zcg U 0 l k f hf 0 (by omega)
 rw [Nat.add_zero,Nat.zero_add] at e
 rw [h.cellAt (k * 9) (by omega),e]
 rfl
def zxb (X:World) (B:Nat) (l:List Fr) (len:Nat) (U:Nat → Value) (rv:Value) (g:Nat) (i:Value) (wr:World):Prop :=
 ∃ (k:Nat) (U':Nat → Value),k ≤ len ∧ i = .int .i64 k ∧ Hid (AgS X B l U rv g k U' wr)
theorem AgS.step {X wr w8:World} {B:Nat} {l:List Fr} {U U':Nat → Value} {len cap g k:Nat} {f:Fr} {u8:Value} {C:Array Value} {T:TypeId} (h:AgS X B l U (.slice (some ⟨g,0,none⟩) len cap) g k U' wr) (hlen:l.length = len) (hf:l[k]? = some f)
   (hL:OwnT w8 (wr.alloc (.cells C T)).drew.heap.size f.ids u8) (hb:Below (wr.alloc (.cells C T)).drew.heap.size (wr.alloc (.cells C T)).drew w8):AgS X B l U (.slice (some ⟨g,0,none⟩) len cap) g (k + 1) (updU U' k u8) (w8.setCell ⟨g,k * 9,none⟩ u8):=by
 have hk:=posA hf
 have hb':Below wr.heap.size wr w8:=(((Below.refl wr.heap.size wr).alloc (Nat.le_refl _) _).drew).trans (hb.mono (by simp))
 have hg:=h.row.lt g rfl
 have hs:(wr.alloc (.cells C T)).drew.heap.size = wr.heap.size + 1:=by simp
 subst hlen
 refine ⟨h.e,?_,?_,?_,?_⟩
 · exact (h.b.trans (hb'.mono (by have:=h.b.size;have:=h.e;omega))).setCell (p:=⟨g,k * 9,none⟩) hg.1 _
 · have e:=zma U' l 0 k f f u8 hf rfl
   rw [Nat.zero_add,zeq hf] at e
   rw [e]
   exact zj6 (za8 h.row hb') u8 (by omega)
 · intro i p hi hp
   rcases Decidable.em (i = k) with e | e
   · subst e
     rw [hf] at hp;cases hp
     rw [zbr]
     exact ownsRow_setCell_below (a:=⟨g,i * 9,none⟩) ((OwnT.mono hL (by rw [hs];omega:g + 1 ≤ _))) (by show g < g + 1;omega) _
   · rw [zbb _ _ e]
     exact ownsRow_setCell_below (a:=⟨g,k * 9,none⟩) (OwnT.later (h.done i p (by omega) hp) hb') (by show g < g + 1;omega) _
 · intro i hi
   rw [zbb _ _ (by omega)]
   exact h.left i (by omega)
theorem zcu (s:St) (fv sv ov kv:Value) (w:World) (hS:StW w s fv sv ov kv) (hf:s.f.size ≤ 1000) (h1:s.store.length ≤ 1000) (h2:s.out.length ≤ 1000) (h3:s.k.l.length ≤ 10000) (h4:(zah s.k.l).length ≤ 10000) :
   Calls Tryz.prog 69 #[stV s fv sv ov kv] w fun e w'=>∃ fv' sv' ov' kv',e = .returned (stV s fv' sv' ov' kv') ∧ LPF w' w.heap.size s.f fv' ∧ RowF w' w.heap.size s.store sv' ∧ RowF w' w.heap.size s.out ov' ∧ FrFresh w' w.heap.size s.k.l kv' ∧ Below w.heap.size w w':=by
 have CF:=fun w' h=>y38h (zdd s.f fv w' h hf)
 have C1:=fun w' h=>y38h (zeh s.store sv w' h (by omega))
 have C2:=fun w' h=>y38h (zeh s.out ov w' h (by omega))
 have HO1:=y38h hS.ls.oks
 have HO2:=y38h hS.lo.oks
 have HOK:=y38h hS.lk.fr_ok
 obtain ⟨of_,cf,rfl⟩:=zam hS.lf
 obtain ⟨os,cs,rfl⟩:=hS.ls.val
 obtain ⟨oo,co,rfl⟩:=hS.lo.val
 obtain ⟨U,ok,ck,bk,okk,rfl,hF⟩:=hS.lk
 have HF:=y38h hF
 clear hF
 have OA:=y38h ((Own.new w (stA s (.slice of_ s.f.kids.length cf) (.slice os s.store.length cs) (.slice oo s.out.length co) (.slice ok s.k.l.length ck)) 43).alloc (.cells stZ.toArray 43))
 have OT:=y38h (Own.newAt (w.alloc (.cells (stA s (.slice of_ s.f.kids.length cf) (.slice os s.store.length cs) (.slice oo s.out.length co) (.slice ok s.k.l.length ck)) 43)) stZ.toArray 43 (b:=w.heap.size + 1) (by simp))
 have BEL:=y38h (((Below.refl w.heap.size w).alloc (Nat.le_refl _) (.cells (stA s (.slice of_ s.f.kids.length cf) (.slice os s.store.length cs) (.slice oo s.out.length co) (.slice ok s.k.l.length ck)) 43)).alloc (by simp) (.cells stZ.toArray 43))
 have HS:=y38h ((hS.alloc (.cells (stA s (.slice of_ s.f.kids.length cf) (.slice os s.store.length cs) (.slice oo s.out.length co) (.slice ok s.k.l.length ck)) 43)).alloc (.cells stZ.toArray 43))
 have HS0:=y38h hS
 clear hS
 go_enter Tryz.func69,Tryz.ntmps69
 go_upto_region 1 with fail
 replace OA:=y38h OA.out.drew
 replace OT:=y38h OT.out.drew
 replace BEL:=y38h BEL.out.drew
 replace HS:=y38h HS.out.drew
 refine zpo (S:=(fun w'=>∀ o,w'.cell? ⟨w.heap.size,o,none⟩ = (stA s (.slice of_ s.f.kids.length cf) (.slice os s.store.length cs) (.slice oo s.out.length co) (.slice ok s.k.l.length ck))[o]?)) (D:=fun j=>decide (9 ≤ j)) (by kernel_rfl) (by exact OA.out.cell) (fun hHeld=>?_)
 refine zc8 (i:=0) (v:=?_) rfl (by kernel_rfl) (by kernel_rfl) (by kernel_rfl) (by kernel_rfl) (fun _ _ _ h=>h) (Or.inl ⟨by rfl,?_⟩) (by assumption) ?_
 rotate_left 1
 · (intro w hSw;(try dsimp only at hSw);go_simp;try with_reducible rfl)
 try simp only [Act.put,y38a,y38b,y38c,y38d,y38e,y38f]
 refine zc8 (i:=1) (v:=?_) rfl (by kernel_rfl) (by kernel_rfl) (by kernel_rfl) (by kernel_rfl) (fun _ _ _ h=>h) (Or.inl ⟨by rfl,?_⟩) (by assumption) ?_
 rotate_left 1
 · (intro w hSw;(try dsimp only at hSw);go_simp;try with_reducible rfl)
 try simp only [Act.put,y38a,y38b,y38c,y38d,y38e,y38f]
 refine zc8 (i:=3) (v:=?_) rfl (by kernel_rfl) (by kernel_rfl) (by kernel_rfl) (by kernel_rfl) (fun _ _ _ h=>h) (Or.inl ⟨by rfl,?_⟩) (by assumption) ?_
 rotate_left 1
 · (intro w hSw;(try dsimp only at hSw);go_simp;try with_reducible rfl)
 try simp only [Act.put,y38a,y38b,y38c,y38d,y38e,y38f]
 refine zc8 (i:=4) (v:=?_) rfl (by kernel_rfl) (by kernel_rfl) (by kernel_rfl) (by kernel_rfl) (fun _ _ _ h=>h) (Or.inl ⟨by rfl,?_⟩) (by assumption) ?_
 rotate_left 1
 · (intro w hSw;(try dsimp only at hSw);go_simp;try with_reducible rfl)
 try simp only [Act.put,y38a,y38b,y38c,y38d,y38e,y38f]
 refine zc8 (i:=6) (v:=?_) rfl (by kernel_rfl) (by kernel_rfl) (by kernel_rfl) (by kernel_rfl) (fun _ _ _ h=>h) (Or.inl ⟨by rfl,?_⟩) (by assumption) ?_
 rotate_left 1
 · (intro w hSw;(try dsimp only at hSw);go_simp;try with_reducible rfl)
 try simp only [Act.put,y38a,y38b,y38c,y38d,y38e,y38f]
 refine zc8 (i:=7) (v:=?_) rfl (by kernel_rfl) (by kernel_rfl) (by kernel_rfl) (by kernel_rfl) (fun _ _ _ h=>h) (Or.inl ⟨by rfl,?_⟩) (by assumption) ?_
 rotate_left 1
 · (intro w hSw;(try dsimp only at hSw);go_simp;try with_reducible rfl)
 try simp only [Act.put,y38a,y38b,y38c,y38d,y38e,y38f]
 refine zdp (i:=2) (by kernel_rfl) rfl (fun K hK=>?_)
 try simp only [y38a,y38b,y38c]
 (go_simp;go_at_call 46;refine (CF _ HS.out.lf).out.mono ?_;rintro e w3 ⟨v3,rfl,hl3,hb⟩;obtain ⟨o3,c3,rfl⟩:=zam hl3.lp;have L3:=y38h (hl3.mono' (B':=w.heap.size + 2) (by have:=OT.out.lt;omega));replace OA:=y38h (OA.out.later hb);replace OT:=y38h (OT.out.later hb);replace BEL:=y38h (BEL.out.trans (hb.mono BEL.out.size));replace HS:=y38h (HS.out.later hb);clear hl3 hb)
 try go_wp2_with fail
 refine hK.out _ _ (fun _=>(by exact OA.out.cell)) (fun hHeld'=>?_)
 have hHeld:=hHeld' (by rfl)
 clear hK K hHeld'
 try simp only [Act.put,y38a,y38b,y38c,y38d,y38e,y38f]
 refine zgu (i:=9) (v:=?_) rfl (by kernel_rfl) (by kernel_rfl) (by kernel_rfl) (by kernel_rfl) (fun _ _ _ h=>h) (Or.inl ⟨by rfl,?_⟩) ?_
 rotate_left 1
 · (intro w _;go_simp;try with_reducible rfl)
 try simp only [Act.put,y38a,y38b,y38c,y38d,y38e,y38f]
 refine zdp (i:=5) (by kernel_rfl) rfl (fun K hK=>?_)
 try simp only [y38a,y38b,y38c]
 (go_simp;go_at_call 56;refine (C1 _ HS.out.ls).out.mono ?_;rintro e w4 ⟨v4,rfl,ho4,hb⟩;obtain ⟨o4,c4,rfl⟩:=ho4.len;have R4:=y38h ((OwnI.rowF ho4 HO1.out).mono (B':=w.heap.size + 2) (by have:=OT.out.lt;omega));replace L3:=y38h (L3.out.later hb);replace OA:=y38h (OA.out.later hb);replace OT:=y38h (OT.out.later hb);replace BEL:=y38h (BEL.out.trans (hb.mono BEL.out.size));replace HS:=y38h (HS.out.later hb);clear ho4 hb)
 try go_wp2_with fail
 refine hK.out _ _ (fun _=>(by exact OA.out.cell)) (fun hHeld'=>?_)
 have hHeld:=hHeld' (by rfl)
 clear hK K hHeld'
 try simp only [Act.put,y38a,y38b,y38c,y38d,y38e,y38f]
 refine zdp (i:=8) (by kernel_rfl) rfl (fun K hK=>?_)
 try simp only [y38a,y38b,y38c]
 (go_simp;go_at_call 56;refine (C2 _ HS.out.lo).out.mono ?_;rintro e w5 ⟨v5,rfl,ho5,hb⟩;obtain ⟨o5,c5,rfl⟩:=ho5.len;have R5:=y38h ((OwnI.rowF ho5 HO2.out).mono (B':=w.heap.size + 2) (by have:=OT.out.lt;omega));replace L3:=y38h (L3.out.later hb);replace R4:=y38h (R4.out.later hb);replace OA:=y38h (OA.out.later hb);replace OT:=y38h (OT.out.later hb);replace BEL:=y38h (BEL.out.trans (hb.mono BEL.out.size));replace HS:=y38h (HS.out.later hb);clear ho5 hb)
 try go_wp2_with fail
 refine hK.out _ _ (fun _=>(by exact OA.out.cell)) (fun hHeld'=>?_)
 have hHeld:=hHeld' (by rfl)
 clear hK K hHeld'
 try simp only [Act.put,y38a,y38b,y38c,y38d,y38e,y38f]
 have AX:Hid (AgX w s (.slice o3 s.f.kids.length c3) (.slice o4 s.store.length c4) (.slice o5 s.out.length c5) (.slice ok s.k.l.length ck) (((w5.setCells w.heap.size 1 [.int .i64 s.f.op,.string s.f.text,.int .i64 s.f.n,.complex .f64 s.f.x s.f.y,.slice o3 s.f.kids.length c3]).setCell ⟨w.heap.size,6,none⟩ (.slice o4 s.store.length c4)).setCell ⟨w.heap.size,7,none⟩ (.slice o5 s.out.length c5))):=y38h (zqi OA.out OT.out BEL.out L3.out R4.out R5.out)
 refine zdp (i:=10) (by kernel_rfl) rfl (fun K hK=>?_)
 try simp only [y38a,y38b,y38c]
 first | rw [if_pos (by rfl)] | skip
 refine wp_store_mid 40 _ _ rfl w.heap.size 1 #[.int .i64 s.f.op,.string s.f.text,.int .i64 s.f.n,.complex .f64 s.f.x s.f.y,.slice o3 s.f.kids.length c3] (by rfl) (by rfl) (OA.out.thereAt 1 5 (by simp)) (by kernel_rfl) (by simp [Value.oneCell']) ?_
 refine hK.out _ _ (fun h=>by cases h) (fun _=>?_)
 clear hK K
 try simp only [Act.put,y38a,y38b,y38c,y38d,y38e,y38f]
 have O1:Hid (Own (w5.setCells w.heap.size 1 [.int .i64 s.f.op,.string s.f.text,.int .i64 s.f.n,.complex .f64 s.f.x s.f.y,.slice o3 s.f.kids.length c3]) w.heap.size (stA s (.slice o3 s.f.kids.length c3) (.slice os s.store.length cs) (.slice oo s.out.length co) (.slice ok s.k.l.length ck)) 43):=y38h (agA OA.out (.slice o3 s.f.kids.length c3))
 have l1:=O1.out.cell
 have f1:=O1.out.free
 have z1:=O1.out.lt
 refine zgu (i:=11) (v:=?_) rfl (by kernel_rfl) (by kernel_rfl) (by kernel_rfl) (by kernel_rfl) (fun _ _ _ h=>h) (Or.inl ⟨by rfl,?_⟩) ?_
 rotate_left 1
 · (intro w _;go_simp;try with_reducible rfl)
 try simp only [Act.put,y38a,y38b,y38c,y38d,y38e,y38f]
 refine zdp (i:=12) (by kernel_rfl) rfl (fun K hK=>?_)
 try simp only [y38a,y38b,y38c]
 first | rw [if_pos (by rfl)] | skip
 go_simp
 refine hK.out _ _ (fun h=>by cases h) (fun _=>?_)
 clear hK K
 try simp only [Act.put,y38a,y38b,y38c,y38d,y38e,y38f]
 have O2:Hid (Own ((w5.setCells w.heap.size 1 [.int .i64 s.f.op,.string s.f.text,.int .i64 s.f.n,.complex .f64 s.f.x s.f.y,.slice o3 s.f.kids.length c3]).setCell ⟨w.heap.size,6,none⟩ (.slice o4 s.store.length c4)) w.heap.size (stA s (.slice o3 s.f.kids.length c3) (.slice o4 s.store.length c4) (.slice oo s.out.length co) (.slice ok s.k.l.length ck)) 43):=y38h (by have:=O1.out.set 6 (.slice o4 s.store.length c4);exact this)
 clear l1 f1 z1
 have l2:=O2.out.cell
 have f2:=O2.out.free
 have z2:=O2.out.lt
 refine zgu (i:=13) (v:=?_) rfl (by kernel_rfl) (by kernel_rfl) (by kernel_rfl) (by kernel_rfl) (fun _ _ _ h=>h) (Or.inl ⟨by rfl,?_⟩) ?_
 rotate_left 1
 · (intro w _;go_simp;try with_reducible rfl)
 try simp only [Act.put,y38a,y38b,y38c,y38d,y38e,y38f]
 refine zdp (i:=14) (by kernel_rfl) rfl (fun K hK=>?_)
 try simp only [y38a,y38b,y38c]
 first | rw [if_pos (by rfl)] | skip
 go_simp
 refine hK.out _ _ (fun h=>by cases h) (fun _=>?_)
 clear hK K
 try simp only [Act.put,y38a,y38b,y38c,y38d,y38e,y38f]
 refine zrb (by kernel_rfl) ?_ _
 clear l2 f2 z2 O1 O2 OA OT BEL L3 R4 R5 HS hHeld
 revert AX
 generalize World.setCell (World.setCell (World.setCells _ _ _ _) _ _) _ _ = X1
 intro AX
 have CF9:=y38h (zlt s.k.l U ok ck bk okk X1 (HF.out.later AX.out.b (Nat.le_refl _)) (by omega))
 have l1:=AX.out.a.cell
 have f1:=AX.out.a.free
 have z1:=AX.out.a.lt
 go_upto_region 3 with (go_at_call 115;refine CF9.out.mono ?_;rintro e w9 ⟨v9,rfl,hr9,hb9⟩;have HR9:=y38h hr9;obtain ⟨o9,c9,g,rfl,r1,r2,r3⟩:=zan hr9;clear l1 f1 z1 hr9;have A9:=y38h (AX.out.a.later hb9);have HB9:=y38h hb9;have HG:=y38h r3;have l1:=A9.out.cell;have f1:=A9.out.free;have z1:=A9.out.lt;clear hb9 r3)
 unfold maxLen at r2
 clear l1 f1 z1 CF9 A9
 have AY:=y38h (AX.out.setK (.slice o9 s.k.l.length c9))
 have AS:Hid (AgS (X1.setCell ⟨w.heap.size,16,none⟩ (.slice o9 s.k.l.length c9)) X1.heap.size s.k.l U (.slice o9 s.k.l.length c9) g 0 U (w9.setCell ⟨w.heap.size,16,none⟩ (.slice o9 s.k.l.length c9))):=y38h ⟨by simp [World.setCell],zo2 HB9.out (p:=⟨w.heap.size,16,none⟩) AX.out.a.lt (Nat.le_refl _) _,ownsRow_setCell_below HR9.out AX.out.a.lt _,fun i f hi=>absurd hi (by omega),fun _ _=>rfl⟩
 have zX:=y38h (show w.heap.size + 2 ≤ X1.heap.size from by have:=AX.out.t.lt;omega)
 clear AX HB9 HR9
 revert AY AS
 generalize World.setCell w9 _ _ = W2
 generalize World.setCell X1 _ _ = X
 intro AY AS
 generalize X1.heap.size = B at *
 have aw:=AY.out.a.below AS.out.b (by have:=zX.out;omega)
 have l1:=aw.cell
 have z1:=aw.lt
 clear aw
 generalize hlen:s.k.l.length = len at *
 have HLEN:=y38h hlen
 clear hlen
 go_wp2_with fail
 go_loopw [27] (fun i wr=>zxb X B s.k.l len U (.slice o9 len c9) g i wr) (fun i _=>len - (intOf i).toNat)
 case atStart=>exact ⟨0,U,Nat.zero_le _,rfl,AS⟩
 case round =>
   clear AS l1 z1
   obtain ⟨k,U',hk,rfl,AS⟩:=hrel
   have OX0:=y38h (AY.out.a.below AS.out.b (by have:=zX.out;omega))
   by_cases hlt:k < len
   · obtain ⟨f,hf⟩:∃ f,s.k.l[k]? = some f:=⟨_,List.getElem?_eq_getElem (by rw [HLEN.out];exact hlt)⟩
     obtain ⟨rfl,_,_⟩:=HG.out (by omega)
     have hrow:=AS.out.row
     rw [HLEN.out] at hrow
     have zg:B ≤ g ∧ g < wr.heap.size:=hrow.lt g rfl
     have hT:=(HF.out.ids k f hf).later (AY.out.b.trans (AS.out.b.mono (by have:=zX.out;omega))) (Nat.le_refl _)
     obtain ⟨ou,cu,hU⟩:=hT.val
     have hUk:U' k = .slice ou f.ids.length cu:=(AS.out.left k (Nat.le_refl _)).trans hU
     obtain ⟨c0,c1,c2,c3',c4',c5',c6,c7,c8⟩:=zbm (w:=wr) (f:=f) (u:=U' k) (b:=g) (o:=k * 9) (fun j z hz=>by
       have hj:j < 9:=(List.getElem?_eq_some_iff.1 hz).1
       rw [hrow.cellAt (k * 9 + j) (by omega),zcg _ _ _ _ _ hf _ hj,Nat.zero_add]
       exact hz)
     rw [hUk] at c0
     rw [hU] at hT
     have hlen9:=znn (List.mem_of_getElem? hf)
     have CC:=y38h (zlv f.ids (.slice ou f.ids.length cu) (wr.alloc (.cells #[.slice ou f.ids.length cu,.int .i64 (f.v 0),.int .i64 (f.v 1),.int .i64 (f.v 2),.int .i64 (f.v 3),.int .i64 (f.v 4),.int .i64 (f.v 5),.int .i64 (f.v 6),.int .i64 (f.v 7)] 105)).drew (hT.later (((Below.refl wr.heap.size wr).alloc (Nat.le_refl _) _).drew) (Nat.le_refl _)) (by omega))
     have OX:=y38h (OX0.out.alloc (.cells #[.slice ou f.ids.length cu,.int .i64 (f.v 0),.int .i64 (f.v 1),.int .i64 (f.v 2),.int .i64 (f.v 3),.int .i64 (f.v 4),.int .i64 (f.v 5),.int .i64 (f.v 6),.int .i64 (f.v 7)] 105))
     have OQ:=y38h (Own.new wr #[.slice ou f.ids.length cu,.int .i64 (f.v 0),.int .i64 (f.v 1),.int .i64 (f.v 2),.int .i64 (f.v 3),.int .i64 (f.v 4),.int .i64 (f.v 5),.int .i64 (f.v 6),.int .i64 (f.v 7)] 105)
     have HROW:=y38h hrow
     have HF2:=y38h hf
     have HUK:=y38h hUk
     have hg1:w.heap.size ≠ g:=by have:=zX.out;omega
     have hg3:wr.heap.size ≠ g:=by omega
     have zg1:=zg.2
     clear hT hU hUk hlen9 hrow
     go_upto_region 6 with fail
     clear c0 c1 c2 c3' c4' c5' c6 c7 c8
     go_region_held3 (fun w'=>(∀ o,w'.cell? ⟨w.heap.size,o,none⟩ = ((stA s (.slice o3 s.f.kids.length c3) (.slice o4 s.store.length c4) (.slice o5 s.out.length c5) (.slice (some ⟨g,0,none⟩) len c9)):Array Value)[o]?) ∧ (∀ o,w'.cell? ⟨wr.heap.size,o,none⟩ = (#[.slice ou f.ids.length cu,.int .i64 (f.v 0),.int .i64 (f.v 1),.int .i64 (f.v 2),.int .i64 (f.v 3),.int .i64 (f.v 4),.int .i64 (f.v 5),.int .i64 (f.v 6),.int .i64 (f.v 7)]:Array Value)[o]?)) (first | with_reducible exact ⟨OX8.out.cell,OQ8.out.cell⟩ | with_reducible exact ⟨(OX8.out.setFar ⟨g,k * 9,none⟩ _ hg1).cell,(OQ8.out.setFar ⟨g,k * 9,none⟩ _ hg3).cell⟩ | with_reducible exact ⟨OX.out.cell,OQ.out.cell⟩ | with_reducible exact ⟨OX.out.drew.cell,OQ.out.drew.cell⟩) (first
       | (go_simp;go_at_call 116;(with_reducible refine CC.out.mono ?_);rintro e w8 ⟨v8,rfl,hL8,hb8⟩;obtain ⟨o8,c8,rfl⟩:=hL8.val;have OX8:=y38h (OX.out.drew.later hb8);have OQ8:=y38h (OQ.out.drew.later hb8);have hb9:Below wr.heap.size wr w8:=(((Below.refl wr.heap.size wr).alloc (Nat.le_refl _) _).drew).trans (hb8.mono (by simp));have hrow8:=za8 HROW.out hb9;have fg:=zep hrow8 (k * 9);have zg8:=(hrow8.lt g rfl).2;have e0:=zxx hrow8 HLEN.out HF2.out;rw [HUK.out] at e0;clear hrow8;have HL8:=y38h hL8;have HB8:=y38h hb8;clear hL8 hb8 hb9)
       | fail)
     have KEY:Hid (AgS X B s.k.l U (.slice (some ⟨g,0,none⟩) len c9) g (k + 1) (updU U' k (.slice o8 f.ids.length c8)) (w8.setCell ⟨g,k * 9,none⟩ (.slice o8 f.ids.length c8))):=y38h (AgS.step AS.out HLEN.out HF2.out HL8.out HB8.out)
     clear e0 fg zg8 OX8 OQ8 HL8 HB8 CC OX OQ AS OX0
     revert KEY
     generalize World.setCell w8 _ _ = W5
     intro KEY
     go_wp2_with fail
     go_roundw
     case rel=>exact ⟨k + 1,_,by omega,by go_num,KEY⟩
     case measure=>simp [intOf];omega
   · have e:k = len:=by omega
     subst e
     have hrow:=AS.out.row
     have FF:=y38h ((zpf hrow (fun i f hf=>AS.out.done i f (by have:=posA hf;have:=HLEN.out;omega) hf) (fun h0=>Nat.le_succ_of_le (HG.out (by have:=HLEN.out;omega)).2.1) HOK.out).mono zX.out)
     have AW:=AY.out.later (AS.out.e ▸ AS.out.b)
     have HK:=y38h (AW.fin FF.out ((stA s (.slice o3 s.f.kids.length c3) (.slice o4 s.store.length c4) (.slice o5 s.out.length c5) (.slice o9 k c9))).toList rfl)
     have OAR:=y38h AW.a
     have OTR:=y38h AW.t
     clear AY AW FF AS OX0 hrow
     go_wp2_with (first | (refine wpList_load_mid (by rfl) 43 _ (by rfl) w.heap.size 0 (by rfl) ((stA s (.slice o3 s.f.kids.length c3) (.slice o4 s.store.length c4) (.slice o5 s.out.length c5) (.slice o9 k c9))).toList _ OAR.out.range Tryz.underlying43 (by rfl) (by kernel_rfl) ?_) | (refine wpList_store_mid (by rfl) 43 _ _ (by rfl) (w.heap.size + 1) 0 ((stA s (.slice o3 s.f.kids.length c3) (.slice o4 s.store.length c4) (.slice o5 s.out.length c5) (.slice o9 k c9))) (by rfl) (by rfl) (OTR.out.there (by rfl)) (by kernel_rfl) (by simp [Value.oneCell']) ?_) | fail)
     revert HK
     generalize World.setCells _ _ _ _ = WW
     intro HK
     exact zmz (by rfl) (by rfl) (l:=((stA s (.slice o3 s.f.kids.length c3) (.slice o4 s.store.length c4) (.slice o5 s.out.length c5) (.slice o9 k c9))).toList) HK.out.1.range Tryz.underlying43 (by rfl) (by kernel_rfl) rfl ⟨_,_,_,_,rfl,HK.out.2⟩
def gotI (s:St) (id:ByteArray):Itm × Bool:=if (getI s.store id).2 = true then getI s.store id else getI s.out id
theorem zme {s:St} (h:Good s) (id:ByteArray):gotI s id = zad s id:=by
 unfold gotI
 rcases zcm h id with ⟨i,hi,e,hq⟩ | ⟨i,hi,e,hq⟩ | ⟨h1,h2,hq⟩
 · have:=(zfh h.rs).1 hi
   rw [e] at this
   rw [hq,this];rfl
 · have h1:getI s.store id = (Itm.zero,false):=zci fun j hj e'=>h.tw i hi j hj (e'.trans e.symm)
   have h2:=(zfh h.ro).1 hi
   rw [e] at h2
   rw [hq,h1,h2];rfl
 · rw [hq,zci h1,zci h2];rfl
theorem zgr (s:St) (fv sv ov kv:Value) (id:ByteArray) (w:World) (hS:StW w s fv sv ov kv) (r1:zak s.store) (r2:zak s.out) (h1:s.store.length ≤ 1000) (h2:s.out.length ≤ 1000) (hid:id.size ≤ maxLen) :
   Calls Tryz.prog 67 #[stV s fv sv ov kv,.string id] w fun e w'=>e = .returned (.tuple #[iV (gotI s id).1,.bool (gotI s id).2]) ∧ Below w.heap.size w w':=by
 obtain ⟨of_,cf,rfl⟩:=zam hS.lf
 obtain ⟨os,cs,rfl⟩:=hS.ls.val
 obtain ⟨oo,co,rfl⟩:=hS.lo.val
 obtain ⟨ok,ck,rfl⟩:=hS.lk.val
 have OA:=y38h ((Own.new w (stA s (.slice of_ s.f.kids.length cf) (.slice os s.store.length cs) (.slice oo s.out.length co) (.slice ok s.k.l.length ck)) 43).alloc (.cells (iA Itm.zero) 69))
 have OT:=y38h (Own.newAt (w.alloc (.cells (stA s (.slice of_ s.f.kids.length cf) (.slice os s.store.length cs) (.slice oo s.out.length co) (.slice ok s.k.l.length ck)) 43)) (iA Itm.zero) 69 (b:=w.heap.size + 1) (by simp))
 have BE:=y38h (((Below.refl w.heap.size w).alloc (Nat.le_refl _) (.cells (stA s (.slice of_ s.f.kids.length cf) (.slice os s.store.length cs) (.slice oo s.out.length co) (.slice ok s.k.l.length ck)) 43)).alloc (by simp) (.cells (iA Itm.zero) 69))
 have HW:=y38h hS
 have G1:=fun w' h=>y38h (zd2 s.store id (.slice os s.store.length cs) w' h r1 h1 hid)
 have G2:=fun w' h=>y38h (zd2 s.out id (.slice oo s.out.length co) w' h r2 h2 hid)
 clear hS r1 r2 h1 h2 hid
 unfold gotI
 generalize getI s.store id = q1 at *
 generalize getI s.out id = q2 at *
 obtain ⟨x1,b1⟩:=q1
 obtain ⟨x2,b2⟩:=q2
 have l0:=OA.out.cell
 have z0:=OA.out.lt
 cases b1
 · go_enter Tryz.func67,Tryz.ntmps67
   go_wp2_with fail
   refine (G1 _ (HW.out.ls.later BE.out)).out.mono ?_
   rintro e w1 ⟨rfl,hb⟩
   clear l0 z0
   replace BE:=y38h (BE.out.trans (hb.mono BE.out.size))
   replace OA:=y38h (OA.out.later hb)
   replace OT:=y38h (OT.out.later hb)
   clear hb
   replace BE:=y38h (BE.out.alloc (by have:=BE.out.size;omega) (.cells (iA x1) 69))
   replace OA:=y38h (OA.out.alloc (.cells (iA x1) 69))
   replace OT:=y38h (OT.out.alloc (.cells (iA x1) 69))
   have l0:=OA.out.cell
   have z0:=OA.out.lt
   go_wp2_with fail
   refine (G2 _ (HW.out.lo.later BE.out)).out.mono ?_
   rintro e w3 ⟨rfl,hb⟩
   clear l0 z0
   have BE3:=y38h (BE.out.trans (hb.mono BE.out.size))
   have OT3:=y38h (OT.out.later hb)
   clear BE OA OT hb
   have HK:=y38h (And.intro (OT3.out.sets (ic x2) (by rfl)) (zab (b:=w.heap.size + 1) (by omega) (ic x2) 0 BE3.out))
   go_wp2_with (first | (refine wpList_store_mid (by rfl) 69 _ _ (by rfl) (w.heap.size + 1) 0 (iA x2) (by rfl) (by rfl) (OT3.out.there (by rfl)) (by kernel_rfl) (by simp [Value.oneCell']) ?_) | fail)
   revert HK
   generalize World.setCells _ _ _ _ = WW
   intro HK
   exact zaj (by rfl) (by rfl) (by rfl) (l:=ic x2) HK.out.1.range Tryz.underlying69 (by rfl) (by kernel_rfl) rfl ⟨rfl,HK.out.2⟩
 · go_enter Tryz.func67,Tryz.ntmps67
   go_wp2_with fail
   refine (G1 _ (HW.out.ls.later BE.out)).out.mono ?_
   rintro e w1 ⟨rfl,hb⟩
   clear l0 z0
   replace BE:=y38h (BE.out.trans (hb.mono BE.out.size))
   replace OT:=y38h (OT.out.later hb)
   clear hb OA
   have O6:=y38h (Own.new w1 (iA x1) 69)
   have zw:=OT.out.lt
   replace BE:=y38h (BE.out.alloc (by have:=BE.out.size;omega) (.cells (iA x1) 69))
   replace OT:=y38h (OT.out.alloc (.cells (iA x1) 69))
   have HK:=y38h (And.intro (OT.out.sets (ic x1) (by rfl)) (zab (b:=w.heap.size + 1) (by omega) (ic x1) 0 BE.out))
   have l6:=O6.out.cell
   go_wp2_with (first | (refine wpList_store_mid (by rfl) 69 _ _ (by rfl) (w.heap.size + 1) 0 (iA x1) (by rfl) (by rfl) (OT.out.there (by rfl)) (by kernel_rfl) (by simp [Value.oneCell']) ?_) | fail)
   revert HK
   generalize World.setCells _ _ _ _ = WW
   intro HK
   exact zaj (by rfl) (by rfl) (by rfl) (l:=ic x1) HK.out.1.range Tryz.underlying69 (by rfl) (by kernel_rfl) rfl ⟨rfl,HK.out.2⟩
abbrev zlj (x:Itm):Itm:=⟨x.id,1,1,1,x.kd,x.num,x.x,x.y,x.d⟩
theorem zgd (x:Itm) (w:World) :
   Calls Tryz.prog 68 #[iV x] w fun e w'=>e = .returned (.bool (mayT (zlj x))) ∧ Below w.heap.size w w':=by
 have BE:=y38h ((Below.refl w.heap.size w).alloc (Nat.le_refl _) (.cells (iA (zlj x)) 69))
 have M:=fun w'=>y38h (zjb (zlj x) w')
 generalize mayT (zlj x) = b at *
 go_enter Tryz.func68,Tryz.ntmps68
 go_wp2_with (go_at_call 114;refine (M _).out.mono ?_;rintro e w3 ⟨rfl,hb3⟩)
 go_ret
 exact ⟨rfl,BE.out.trans (hb3.mono BE.out.size)⟩
theorem zcd {P:Program} {o:Oper} {a:Act} {w:World} (ty:TypeId) (x:Operand) (ho:o.op = .load ty x) (b off:Nat) (hx:a.eval x = .pointer (some ⟨b,off,none⟩)) (cs:List Value) (d:TypeDesc) (hc:w.rangeAt b off cs)
   (hu:P.underlying ty = some d) (hd:d.isRow = true) (hi:(P.info? ty).map (·.size) = some cs.length):(execOp a.eval o).run P w = .ok (.value (.agg cs.toArray)) w:=by
 unfold execOp
 simp only [ho,hx,Instr.loadAt,Instr.sureAddr,Sem.run_bind,Sem.run_pure,Result.andThen_ok,run_loadVar_mid w b off ty cs d hc hu hd hi]
theorem zj7 {w2 w3:World} {s U:St} {fv sv ov kv v2 fv' sv' ov' kv':Value} {f:Pr} {B:Nat} (h:StN w3 w2.heap.size s.f fv s.store sv s.out ov s.k.l kv U fv' sv' ov' kv' ∨ StN w3 w2.heap.size f v2 s.store sv s.out ov s.k.l kv U fv' sv' ov' kv') (hF:LPF w2 B f v2) (hB:B ≤ w2.heap.size) (hb3:Below w2.heap.size w2 w3):StN w3 B s.f fv s.store sv s.out ov s.k.l kv U fv' sv' ov' kv':=by
 rcases h with h | h
 · exact h.mono hB
 · obtain ⟨h1,h2,h3,h4⟩:=h.mono hB
   refine ⟨.inr ?_,h2,h3,h4⟩
   rcases h1 with ⟨e,rfl⟩ | h1
   · rw [e];exact hF.later hb3
   · exact h1
end Go.Proofs.YthnllikalobmeaaGreat
