/- Joined: LocalA, LocalC, LocN, Up9M. -/
import Derived.Test.YthnllikalobmeaaGreatK37
import Derived.Test.YthnllikalobmeaaGreatK39
import Derived.Test.YthnllikalobmeaaGreatK38
import Derived.Test.YthnllikalobmeaaGreatK42
import Derived.Test.YthnllikalobmeaaGreatK41
import Derived.Test.YthnllikalobmeaaGreatK43
namespace Go.Proofs.YthnllikalobmeaaGreat
set_option linter.unusedVariables false
set_option linter.unusedSimpArgs false
set_option maxRecDepth 100000
set_option maxHeartbeats 8000000
open Go.RowKit
theorem zk3 (s:St) (fv sv ov kv:Value) (w:World) (hS:StW w s fv sv ov kv) (hB:StB s) :
   Calls Tryz.prog 11 #[stV s fv sv ov kv] w fun e w'=>e = .returned (.bool (mayS s)) ∧ Below w.heap.size w w' :=
 zkw s fv sv ov kv w hS (Nat.le_trans hB.ls (by decide)) (Nat.le_trans hB.lo (by decide)) (Nat.le_trans hB.ki (by decide))
theorem zim (s:St) (fv sv ov kv:Value) (f:Pr) (gv:Value) (w:World) (hS:StW w s fv sv ov kv) (hG:Good s) (hB:StB s) (hL:LP w f gv) (hf:f.size ≤ 60) :
   Calls Tryz.prog 50 #[stV s fv sv ov kv,prV f gv] w (zxm errI s.f fv f gv s sv ov kv (filS s f) (filE s f) w) :=
 (zi0 s fv sv ov kv f gv w hS hG hB hL hf).mono fun _ _ h=>.inl h
theorem zgs (w:World):Row 8 ic w [] (.slice none 0 0):=(OwnI.nil w 0).row (by simp)
theorem zqi (w:World):FrW w [] (.slice none 0 0):=(zft w 0).fr
theorem newC (r:Int) (f:Pr) (v:Value) (w:World) (h:LP w f v) (hf:f.size ≤ 60) :
   Calls Tryz.prog 13 #[.int .i64 r,prV f v] w fun e w'=>∃ f5 s5 o5 k5,e = .returned (.tuple #[stV (newT r f) f5 s5 o5 k5,errI (newE r f)]) ∧ StW w' (newT r f) f5 s5 o5 k5 ∧ Below w.heap.size w w' :=
 (zk4 r f v w h hf).mono fun _ _ ⟨f5,s5,o5,k5,he,hx,hb⟩=>⟨f5,s5,o5,k5,he,hx.lies h (zgs w) (zgs w) (zqi w) hb,hb⟩
theorem newD (r:Int) (f:Pr) (v:Value) (w:World) (h:LP w f v) (hf:f.size ≤ 60) :
   Calls Tryz.prog 15 #[.int .i64 r,prV f v] w fun e w'=>∃ f5 s5 o5 k5,e = .returned (.tuple #[stV (newT r f) f5 s5 o5 k5,.int .i64 (newE r f)]) ∧ StW w' (newT r f) f5 s5 o5 k5 ∧ Below w.heap.size w w' :=
 (zh0 r f v w h (by omega)).mono fun _ _ ⟨hc,hb⟩=>by
   rcases hc with ⟨ho,he⟩ | ⟨ho,he⟩
   · have e1:newT r f = newS r f:=by unfold newT;rw [if_pos ho]
     have e2:newE r f = 0:=by unfold newE;rw [if_pos ho]
     rw [e1,e2]
     exact ⟨_,_,_,_,he,zl3 (h.later hb (Nat.le_refl _)),hb⟩
   · have e1:newT r f = zgx:=by unfold newT;rw [if_neg (by simp [ho])]
     have e2:newE r f = 1:=by unfold newE;rw [if_neg (by simp [ho])]
     rw [e1,e2]
     exact ⟨_,_,_,_,he,zsq _,hb⟩
theorem zwb {f:Pr} (h:Pr.mayB f = true):Pr.same f f = true:=by
 unfold Pr.mayB Pr.fitsB at h
 rw [Bool.and_eq_true,Bool.and_eq_true] at h
 exact Pr.all_same f h.2.2
theorem zom {r:Int} {f:Pr} (h:zcu r f = true):Good (newS r f):=by
 unfold zcu at h
 rw [Bool.and_eq_true,inB_iff] at h
 refine ⟨h.1,rfl,rfl,zl1,h.2,by show 0 + 0 ≤ 40;omega,by show (0:Int) ≤ 0 ∧ (0:Int) ≤ 1000;omega,by show (0:Int) ≤ 0 ∧ (0:Int) ≤ 1000000;omega,by show (0:Int) ≤ 0 ∧ (0:Int) ≤ 1000000;omega,fun i hi=>by simp [newS] at hi,fun i hi=>by simp [newS] at hi,fun i hi=>by simp [newS] at hi,?_⟩
 rw [beyS_iff]
 exact ⟨zdu (Int.le_refl _) fun _=>Int.le_refl _,fun f hf=>by simp [newS] at hf⟩
abbrev pUp:Pr:=.node 1 ⟨#[]⟩ 0 0 0 []
abbrev xUp:Itm:=itS ⟨#[97]⟩ ⟨#[]⟩ 1 0 0
theorem zqv:Pr.mayB pUp = true:=by
 have h:Pr.bareB ⟨#[]⟩ 0 0 0 0 = true:=by
   have h1:feq 0 0 = true:=by decide
   have h2:(⟨#[]⟩:ByteArray).toList = []:=by rw [ByteArray.toList_eq]
   unfold Pr.bareB
   rw [h1,h2];rfl
 simp [Pr.mayB,Pr.fitsB,Pr.size,Pr.sizes,Pr.depth,Pr.depths,Pr.all,Pr.alls,Pr.partB,h]
theorem zza:mayT xUp = true:=by decide
theorem up_new:newT 1 pUp = newS 1 pUp ∧ newE 1 pUp = 0:=by
 have h:zcu 1 pUp = true:=by unfold zcu;rw [zqv];decide
 unfold newT newE
 rw [if_pos h,if_pos h];exact ⟨rfl,rfl⟩
theorem zq3:Good (newS 1 pUp):=zom (by unfold zcu;rw [zqv];decide)
theorem zu8:(zag (newS 1 pUp) xUp.id).2 = false:=rfl
theorem up_cre:creE (newS 1 pUp) xUp = 0 ∧ creS (newS 1 pUp) xUp = zay (newS 1 pUp) xUp:=by
 have e:creE (newS 1 pUp) xUp = 0:=by
   unfold creE
   rw [if_pos zza,if_neg (by rw [zu8];simp),if_neg (by simp [newS]),if_neg (by decide)]
 exact ⟨e,by unfold creS;rw [if_pos e]⟩
theorem z0n:hasT pUp xUp = true:=by decide
theorem zy6:zd8 (zay (newS 1 pUp) xUp) = [zak (newS 1 pUp) xUp]:=by
 show (zaq (preS (newS 1 pUp) xUp) (zak (newS 1 pUp) xUp)).filter _ = _
 unfold zaq
 rw [show hasT (preS (newS 1 pUp) xUp).f (zak (newS 1 pUp) xUp) = true from z0n,if_pos rfl]
 rfl
theorem zy7:(zay (newS 1 pUp) xUp).k.star 0 = 1:=by decide
end Go.Proofs.YthnllikalobmeaaGreat
