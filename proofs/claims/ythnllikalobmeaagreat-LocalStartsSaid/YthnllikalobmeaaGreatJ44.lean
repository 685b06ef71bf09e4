/- Joined: LocalA, StGood3, LocN, Up9M. -/
import Derived.Test.YthnllikalobmeaaGreatJ36
import Derived.Test.YthnllikalobmeaaGreatJ39
import Derived.Test.YthnllikalobmeaaGreatJ43
import Derived.Test.YthnllikalobmeaaGreatJ31
namespace Go.Proofs.YthnllikalobmeaaGreat
set_option linter.unusedVariables false
set_option linter.unusedSimpArgs false
set_option maxRecDepth 100000
set_option maxHeartbeats 8000000
open Go.RowKit
theorem zgh (s:St) (fv sv ov kv:Value) (w:World) (hS:StW w s fv sv ov kv) (hB:StB s) :
   Calls Tryz.prog 11 #[stV s fv sv ov kv] w fun e w'=>e = .returned (.bool (mayS s)) ∧ Below w.heap.size w w' :=
 zlj s fv sv ov kv w hS (Nat.le_trans hB.ls (by decide)) (Nat.le_trans hB.lo (by decide)) (Nat.le_trans hB.ki (by decide))
theorem zjw {s:St} {x:Itm} (h:Good s) (hx:mayT x = true) (hf:zbe s = false):mayT (zak s x) = true:=by
 obtain ⟨h1,h2,_,_,_,h6,h7⟩:=mayT_iff.1 hx
 obtain ⟨hc,ht⟩:=zoo h hf
 have:=h.c
 have:=h.t
 refine mayT_iff.2 ⟨h1,h2,h.r,?_,?_,h6,h7⟩
 · show 1 ≤ s.count + 1 ∧ s.count + 1 ≤ 1000;omega
 · show 1 ≤ s.clock + 1 ∧ s.clock + 1 ≤ 1000000;omega
theorem z0f {s:St} {x:Itm} (h:creE s x = 0):mayT x = true ∧ zbe s = false ∧ ((zaf s x.id).2 = true ∨ s.store.length + s.out.length ≠ 40):=by
 unfold creE at h
 split at h
 · rename_i h1
   split at h
   · cases h
   · split at h
     · cases h
     · rename_i h3
       split at h
       · cases h
       · rename_i h4
         refine ⟨h1,by simpa using h4,?_⟩
         cases q:(zaf s x.id).2 with
         | true=>exact .inl rfl
         | false=>exact .inr fun e=>h3 ⟨q,e⟩
 · cases h
theorem z1b {s:St} {x:Itm} (h:updE s x = 0):mayT x = true ∧ zbe s = false ∧ (zaf s x.id).2 = true:=by
 unfold updE at h
 split at h
 · rename_i h1
   split at h
   · rename_i h2
     split at h
     · cases h
     · rename_i h4;exact ⟨h1,by simpa using h4,h2.1⟩
   · cases h
 · cases h
theorem z0l {s:St} {id:ByteArray} (h:delE s id = 0):zay id = true ∧ zbe s = false ∧ (zaf s id).2 = true ∧ (zaf s id).1.d = false:=by
 unfold delE at h
 split at h
 · rename_i h1
   split at h
   · rename_i h2
     split at h
     · cases h
     · rename_i h4;exact ⟨h1,by simpa using h4,h2.1,h2.2⟩
   · cases h
 · cases h
theorem zoa {s:St} {x:Itm} (h:Good s):Good (creS s x):=by
 unfold creS
 split
 · rename_i e
   obtain ⟨h1,h2,h3⟩:=z0f e
   refine zia h (zjw h h1 h2) h2 (h3.imp id fun q=>?_)
   have:=h.n;omega
 · exact h
theorem zx4 {s:St} {x:Itm} (h:Good s):Good (updS s x):=by
 unfold updS
 split
 · rename_i e
   obtain ⟨h1,h2,h3⟩:=z1b e
   exact zia h (zjw h h1 h2) h2 (.inl h3)
 · exact h
theorem zwa {i:Itm} (h:mayT i = true):mayT (zgv i) = true:=h
theorem zwb {s:St} {id:ByteArray} (h:Good s):Good (delS s id):=by
 unfold delS
 split
 · rename_i e
   obtain ⟨_,h2,h3,_⟩:=z0l e
   obtain ⟨m1,m2⟩:=zta h h3
   refine zia h (zjw h (zwa m1) h2) h2 (.inl ?_)
   show (zaf s (zaf s id).1.id).2 = true
   rw [m2];exact h3
 · exact h
theorem zt9 {s:St} {f:Pr} (h:Good s):Good (filS s f):=by
 unfold filS
 split
 · rename_i e;exact zwe h e
 · exact h
theorem zy2 {s:St} (h:Good s) (d:De):Good (doS s d):=by
 unfold doS
 split
 · exact zoa h
 · split
   · exact zx4 h
   · split
     · exact zwb h
     · exact zt9 h
theorem zpw (w:World):Row 8 ic w [] (.slice none 0 0):=(OwnI.nil w 0).row (by simp)
theorem zra:∀ {l:List Fr},(∀ x ∈ l,decide (x.ids.length ≤ 60) = true) → (zag l).length ≤ 60 * l.length
 | [],_=>by simp [zag]
 | a :: l,h=>by
   have h5:=zra (l:=l) fun x hx=>h x (by simp [hx])
   have h6:=of_decide_eq_true (h a (by simp))
   simp only [zag,List.flatMap_cons,List.length_append,List.length_cons] at *
   omega
theorem zq9 {s:St} (h:zcc s = 1):StB s:=by
 unfold zcc zih zc1 at h
 split at h
 · cases h
 · rename_i h1
   split at h
   · split at h
     · rename_i h2 h3
       unfold zui at h3
       rw [Bool.and_eq_true,decide_eq_true_eq,List.all_eq_true] at h3
       have hk:=zra h3.2
       have h4:=h3.1
       exact ⟨h2,by omega,by omega,by omega,by omega⟩
     · cases h
   · split at h <;> cases h
theorem zzb (w:World):FrW w [] (.slice none 0 0):=(zf9 w 0).fr
theorem newC (r:Int) (f:Pr) (v:Value) (w:World) (h:LP w f v) (hf:f.size ≤ 60) :
   Calls Tryz.prog 13 #[.int .i64 r,prV f v] w fun e w'=>∃ f5 s5 o5 k5,e = .returned (.tuple #[stV (newT r f) f5 s5 o5 k5,errI (newE r f)]) ∧ StW w' (newT r f) f5 s5 o5 k5 ∧ Below w.heap.size w w' :=
 (zlr r f v w h hf).mono fun _ _ ⟨f5,s5,o5,k5,he,hx,hb⟩=>⟨f5,s5,o5,k5,he,hx.lies h (zpw w) (zpw w) (zzb w) hb,hb⟩
theorem newD (r:Int) (f:Pr) (v:Value) (w:World) (h:LP w f v) (hf:f.size ≤ 60) :
   Calls Tryz.prog 15 #[.int .i64 r,prV f v] w fun e w'=>∃ f5 s5 o5 k5,e = .returned (.tuple #[stV (newT r f) f5 s5 o5 k5,.int .i64 (newE r f)]) ∧ StW w' (newT r f) f5 s5 o5 k5 ∧ Below w.heap.size w w' :=
 (zpq r f v w h (by omega)).mono fun _ _ ⟨hc,hb⟩=>by
   rcases hc with ⟨ho,he⟩ | ⟨ho,he⟩
   · have e1:newT r f = newS r f:=by unfold newT;rw [if_pos ho]
     have e2:newE r f = 0:=by unfold newE;rw [if_pos ho]
     rw [e1,e2]
     exact ⟨_,_,_,_,he,zmq (h.later hb (Nat.le_refl _)),hb⟩
   · have e1:newT r f = zf7:=by unfold newT;rw [if_neg (by simp [ho])]
     have e2:newE r f = 1:=by unfold newE;rw [if_neg (by simp [ho])]
     rw [e1,e2]
     exact ⟨_,_,_,_,he,ztj _,hb⟩
theorem zzn (r:Int) (f:Pr):0 ≤ newE r f ∧ newE r f ≤ 10:=by unfold newE;split <;> decide
theorem zpe {f:Pr} (h:Pr.mayB f = true):Pr.same f f = true:=by
 unfold Pr.mayB Pr.fitsB at h
 rw [Bool.and_eq_true,Bool.and_eq_true] at h
 exact Pr.all_same f h.2.2
theorem zzp (r:Int) (f:Pr):zf3 (newT r f) (newT r f) = true:=by
 unfold newT
 split
 · rename_i h
   unfold zc9 at h
   rw [Bool.and_eq_true] at h
   unfold zf3 newS
   simp [zpe h.1,zbt,zev]
 · have e:Pr.same znv znv = true:=by
     have:feq 0 0 = true:=by decide
     simp [znv,Pr.same,Pr.sames,this]
   unfold zf3 zf7 newS
   simp [e,zbt,zev]
theorem zw1 {r:Int} {f:Pr} (h:zc9 r f = true):Good (newS r f):=by
 unfold zc9 at h
 rw [Bool.and_eq_true,inB_iff] at h
 refine ⟨h.1,rfl,rfl,zmp,h.2,by show 0 + 0 ≤ 40;omega,by show (0:Int) ≤ 0 ∧ (0:Int) ≤ 1000;omega,by show (0:Int) ≤ 0 ∧ (0:Int) ≤ 1000000;omega,by show (0:Int) ≤ 0 ∧ (0:Int) ≤ 1000000;omega,fun i hi=>by simp [newS] at hi,fun i hi=>by simp [newS] at hi,fun i hi=>by simp [newS] at hi,?_⟩
 rw [beyS_iff]
 exact ⟨zd3 (Int.le_refl _) fun _=>Int.le_refl _,fun f hf=>by simp [newS] at hf⟩
abbrev pUp:Pr:=.node 1 ⟨#[]⟩ 0 0 0 []
abbrev xUp:Itm:=itS ⟨#[97]⟩ ⟨#[]⟩ 1 0 0
theorem zrm:Pr.mayB pUp = true:=by
 have h:Pr.bareB ⟨#[]⟩ 0 0 0 0 = true:=by
   have h1:feq 0 0 = true:=by decide
   have h2:(⟨#[]⟩:ByteArray).toList = []:=by rw [ByteArray.toList_eq]
   unfold Pr.bareB
   rw [h1,h2];rfl
 simp [Pr.mayB,Pr.fitsB,Pr.size,Pr.sizes,Pr.depth,Pr.depths,Pr.all,Pr.alls,Pr.partB,h]
theorem zzz:mayT xUp = true:=by decide
theorem up_new:newT 1 pUp = newS 1 pUp ∧ newE 1 pUp = 0:=by
 have h:zc9 1 pUp = true:=by unfold zc9;rw [zrm];decide
 unfold newT newE
 rw [if_pos h,if_pos h];exact ⟨rfl,rfl⟩
theorem zrv:Good (newS 1 pUp):=zw1 (by unfold zc9;rw [zrm];decide)
theorem zvw:(zaf (newS 1 pUp) xUp.id).2 = false:=rfl
theorem up_cre:creE (newS 1 pUp) xUp = 0 ∧ creS (newS 1 pUp) xUp = za0 (newS 1 pUp) xUp:=by
 have e:creE (newS 1 pUp) xUp = 0:=by
   unfold creE
   rw [if_pos zzz,if_neg (by rw [zvw];simp),if_neg (by simp [newS]),if_neg (by decide)]
 exact ⟨e,by unfold creS;rw [if_pos e]⟩
theorem z1a:hasT pUp xUp = true:=by decide
theorem zzv:zeh (za0 (newS 1 pUp) xUp) = [zak (newS 1 pUp) xUp]:=by
 show (zaq (preS (newS 1 pUp) xUp) (zak (newS 1 pUp) xUp)).filter _ = _
 unfold zaq
 rw [show hasT (preS (newS 1 pUp) xUp).f (zak (newS 1 pUp) xUp) = true from z1a,if_pos rfl]
 rfl
theorem zzw:(za0 (newS 1 pUp) xUp).k.star 0 = 1:=by decide
end Go.Proofs.YthnllikalobmeaaGreat
