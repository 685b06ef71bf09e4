/- Joined: LocCud. -/
import Derived.Test.YthnllikalobmeaaGreatJ41
import Derived.Test.YthnllikalobmeaaGreatJ25
import Derived.Test.YthnllikalobmeaaGreatJ26
import Derived.Test.YthnllikalobmeaaGreatJ06
namespace Go.Proofs.YthnllikalobmeaaGreat
set_option linter.unusedVariables false
set_option linter.unusedSimpArgs false
set_option maxRecDepth 100000
set_option maxHeartbeats 8000000
open Go.RowKit
abbrev rawI (id kd:ByteArray) (num:Int) (px py:Nat):Itm:=⟨id,0,0,0,kd,num,px,py,false⟩
theorem z12 {s:St} {x:Itm} (h:mayT x = false):creS s x = s ∧ creE s x = 1:=by
 have e:creE s x = 1:=by unfold creE;rw [if_neg (by simp [h])]
 exact ⟨by unfold creS;rw [e,if_neg (by decide)],e⟩
theorem z14 {s:St} {x:Itm} (h:mayT x = true) (h2:(zaf s x.id).2 = true) (h3:(zaf s x.id).1.d = false):creS s x = s ∧ creE s x = 3:=by
 have e:creE s x = 3:=by unfold creE;rw [if_pos h,if_pos ⟨h2,h3⟩]
 exact ⟨by unfold creS;rw [e,if_neg (by decide)],e⟩
theorem z15 {s:St} {x:Itm} (h:mayT x = true) (h2:(zaf s x.id).2 = false) (h3:s.store.length + s.out.length = 40):creS s x = s ∧ creE s x = 4:=by
 have e:creE s x = 4:=by unfold creE;rw [if_pos h,if_neg (by simp [h2]),if_pos ⟨h2,h3⟩]
 exact ⟨by unfold creS;rw [e,if_neg (by decide)],e⟩
theorem zgq (s:St) (x:Itm):(verE s = 0 → verS s x = za0 s x) ∧ (verE s ≠ 0 → verS s x = s):=by
 unfold verE verS
 cases zbe s <;> simp
theorem z16 {s:St} {id kd:ByteArray} {num:Int} {px py:Nat} (h:mayT (itS id kd num px py) = true) (h2:¬((zaf s id).2 = true ∧ (zaf s id).1.d = false)) (h3:¬((zaf s id).2 = false ∧ s.store.length + s.out.length = 40)):creS s (itS id kd num px py) = verS s (rawI id kd num px py) ∧ creE s (itS id kd num px py) = verE s:=by
 have e:creE s (itS id kd num px py) = verE s:=by unfold creE verE;rw [if_pos h,if_neg h2,if_neg h3]
 refine ⟨?_,e⟩
 unfold creS
 rw [e]
 split
 · rename_i h0;exact ((zgq s _).1 h0).symm
 · rename_i h0;exact ((zgq s _).2 h0).symm
theorem z2i {s:St} {x:Itm} (h:mayT x = false):updS s x = s ∧ updE s x = 1:=by
 have e:updE s x = 1:=by unfold updE;rw [if_neg (by simp [h])]
 exact ⟨by unfold updS;rw [e,if_neg (by decide)],e⟩
theorem z2j {s:St} {x:Itm} (h:mayT x = true) (h2:¬((zaf s x.id).2 = true ∧ (zaf s x.id).1.d = false)):updS s x = s ∧ updE s x = 2:=by
 have e:updE s x = 2:=by unfold updE;rw [if_pos h,if_neg h2]
 exact ⟨by unfold updS;rw [e,if_neg (by decide)],e⟩
theorem z2k {s:St} {id kd:ByteArray} {num:Int} {px py:Nat} (h:mayT (itS id kd num px py) = true) (h2:(zaf s id).2 = true ∧ (zaf s id).1.d = false):updS s (itS id kd num px py) = verS s (rawI id kd num px py) ∧ updE s (itS id kd num px py) = verE s:=by
 have e:updE s (itS id kd num px py) = verE s:=by unfold updE verE;rw [if_pos h,if_pos h2]
 refine ⟨?_,e⟩
 unfold updS
 rw [e]
 split
 · rename_i h0;exact ((zgq s _).1 h0).symm
 · rename_i h0;exact ((zgq s _).2 h0).symm
theorem z17 {s:St} {id:ByteArray} (h:zay id = true) (h2:(zaf s id).2 = true ∧ (zaf s id).1.d = false):delS s id = verS s (zgv (zaf s id).1) ∧ delE s id = verE s:=by
 have e:delE s id = verE s:=by unfold delE verE;rw [if_pos h,if_pos h2]
 refine ⟨?_,e⟩
 unfold delS
 rw [e]
 split
 · rename_i h0;exact ((zgq s _).1 h0).symm
 · rename_i h0;exact ((zgq s _).2 h0).symm
end Go.Proofs.YthnllikalobmeaaGreat
