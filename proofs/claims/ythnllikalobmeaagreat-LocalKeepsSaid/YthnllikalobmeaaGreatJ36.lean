/- Joined: RefSt11. -/
import Derived.Test.YthnllikalobmeaaGreatJ35
import Derived.Test.YthnllikalobmeaaGreatJ33
import Derived.Test.YthnllikalobmeaaGreatJ28
import Derived.Test.YthnllikalobmeaaGreatJ25
import Derived.Deep.RegionLaw
namespace Go.Proofs.YthnllikalobmeaaGreat
set_option linter.unusedVariables false
set_option linter.unusedSimpArgs false
set_option maxRecDepth 100000
set_option maxHeartbeats 8000000
open Go.RowKit
theorem zbv {P:Program} {o:Oper} {a:Act} {w:World} {K:Act → Prop} (ty:TypeId) (x:Operand) (ho:o.op = .load ty x) (b off:Nat) (hx:a.eval x = .pointer (some ⟨b,off,none⟩)) (cs:List Value) (d:TypeDesc) (hc:w.rangeAt b off cs)
   (hu:P.underlying ty = some d) (hd:d.isRow = true) (hi:(P.info? ty).map (·.size) = some cs.length) (h:K (a.put o.dst (.agg cs.toArray))):o.still P a w K:=by
 unfold Oper.still execOp
 simp only [ho,hx,Instr.loadAt,Instr.sureAddr,Sem.run_bind,Sem.run_pure,Result.andThen_ok,run_loadVar_mid w b off ty cs d hc hu hd hi]
 exact ⟨rfl,h⟩
theorem zwp {s:St} {f:Pr} (h:Pr.mayB f = false ∨ (s.f.op = 1 ∧ f.op ≠ 1)):filE s f = 1 ∧ filS s f = s:=by
 have e:filE s f = 1:=by
   unfold filE
   rw [if_neg]
   rintro ⟨h1,h2⟩
   rcases h with h | h
   · rw [h] at h1;cases h1
   · exact h2 h
 exact ⟨e,by unfold filS;rw [e,if_neg (by decide)]⟩
theorem zwq {s:St} {f:Pr} (h:Pr.mayB f = true) (h2:¬(s.f.op = 1 ∧ f.op ≠ 1)) (h3:s.epoch = 1000000):filE s f = 5 ∧ filS s f = s:=by
 have e:filE s f = 5:=by unfold filE;rw [if_pos ⟨h,h2⟩,if_pos h3]
 exact ⟨e,by unfold filS;rw [e,if_neg (by decide)]⟩
theorem zqw {s:St} {f:Pr} (h:Pr.mayB f = true) (h2:¬(s.f.op = 1 ∧ f.op ≠ 1)) (h3:s.epoch ≠ 1000000):filE s f = 0 ∧ filS s f = filF s f:=by
 have e:filE s f = 0:=by unfold filE;rw [if_pos ⟨h,h2⟩,if_neg h3]
 exact ⟨e,by unfold filS;rw [e,if_pos rfl]⟩
theorem zl8 (v:Nat → Int) (id:ByteArray):∀ o:List Fr,(zah (putF v id o)).length = (zah o).length + 1
 | []=>rfl
 | g :: o=>by
   rw [putF]
   split
   · simp [zah];omega
   · have:=zl8 v id o
     simp only [zah,List.flatMap_cons,List.length_append] at *
     omega
theorem zs2 (F:ByteArray → Nat → Int) (ids:List ByteArray):∀ o:List Fr,(zah (ids.foldl (zaq F) o)).length ≤ (zah o).length + ids.length:=by
 induction ids with
 | nil=>intro o;simp
 | cons a l ih =>
   intro o
   rw [List.foldl_cons]
   have:=ih (zaq F o a)
   have h2:(zah (zaq F o a)).length ≤ (zah o).length + 1:=by
     unfold zaq
     split
     · omega
     · rw [zl8];omega
   simp only [List.length_cons];omega
theorem zfa (k:Kn):(zah (zaf k).l).length ≤ (zah k.l).length ∧ (zaf k).l.length ≤ (zah k.l).length:=by
 have h1:=zs2 (beyB k) (zbd k) []
 have h2:=zof (beyB k) (zbd k) []
 have h3:(zbd k).length ≤ (zah k.l).length:=zoi _
 have e:(zaf k).l = (zbd k).foldl (zaq (beyB k)) []:=rfl
 rw [e]
 have h0:(zah ([]:List Fr)).length = 0:=rfl
 have h4:([]:List Fr).length = 0:=rfl
 omega
theorem zeu (k:Kn) (id:ByteArray) (r c:Int):(zah (zat k id r c).l).length = (zah k.l).length + 1:=by
 simp [zat,zah]
theorem zhq (w:World) (B:Nat):FrFresh w B [] (.slice none 0 0):=fun w' _ _=>⟨fun _=>.nilFunc,none,0,0,0,rfl,Nat.le_refl _,by decide,fun h=>absurd h (by simp),fun k f hk=>by simp at hk,fun k f hk=>by simp at hk⟩
end Go.Proofs.YthnllikalobmeaaGreat
