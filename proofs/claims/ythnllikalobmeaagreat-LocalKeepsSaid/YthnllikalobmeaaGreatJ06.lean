/- Joined: ItemB0, ItemB, FarM, OpenA. -/
import Derived.Test.YthnllikalobmeaaGreatJ05
import Derived.Test.YthnllikalobmeaaGreatRows
import Derived.WalkKit
import Derived.ProofKit
import Derived.OpenShut
import Derived.ShutString
import Derived.ChangeOld
import Derived.Below
import Derived.Deep.Fields
import Derived.WalkLawsBesides
namespace Go.Proofs.YthnllikalobmeaaGreat
set_option linter.unusedVariables false
set_option linter.unusedSimpArgs false
set_option maxRecDepth 100000
set_option maxHeartbeats 8000000
open Go.RowKit
theorem zgg (s:ByteArray) (h:s.size = 0):s = ⟨#[]⟩:=by
 cases s with
 | mk d=>have:d.size = 0:=h;rw [Array.size_eq_zero_iff.1 this]
theorem zeb (s:ByteArray) (w:World) :
   Calls Tryz.prog 97 #[.string s] w fun e w'=>e = .returned (.bool (zax s)) ∧ w = w':=by
 have H:=Lib.hid (zjo s w)
 by_cases h:s.size = 0
 · have e:=zgg s h
   subst e
   go_enter Tryz.func97,Tryz.ntmps97
   go_wp2
   go_ret
   exact ⟨zaa rfl,rfl⟩
 · have e:zax s = txtB s:=by simp [zax];omega
   rw [e]
   clear e
   have h1:s.toList ≠ []:=by
     intro hz
     exact h (by have:=congrArg List.length hz;rw [zhx] at this;simpa using this)
   have h2:s.toList.isEmpty = false:=by rw [List.isEmpty_eq_false_iff];exact h1
   generalize txtB s = r at *
   clear h
   go_enter Tryz.func97,Tryz.ntmps97
   go_wp2_with (go_at_call 142;refine (H.out).mono ?_;rintro e w' ⟨rfl,rfl⟩)
   go_ret
   exact ⟨rfl,rfl⟩
def inB (n a b:Int):Bool:=decide (a ≤ n) && decide (n ≤ b)
def verB (r c:Int):Bool:=inB r 1 8 && inB c 1 1000
theorem zg9 (n a b:Int) (w:World) :
   Calls Tryz.prog 153 #[.int .i64 n,.int .i64 a,.int .i64 b] w fun e w'=>e = .returned (.bool (inB n a b)) ∧ w = w':=by
 unfold inB
 by_cases h:a ≤ n <;> by_cases h':n ≤ b <;>
 ( go_enter Tryz.func153,Tryz.ntmps153
   go_wp2
   go_ret
   exact ⟨zaa (by simp [h,h']),rfl⟩ )
theorem zlh (r c:Int) (w:World) :
   Calls Tryz.prog 152 #[.agg #[.int .i64 r,.int .i64 c]] w fun e w'=>e = .returned (.bool (verB r c)) ∧ Below w.heap.size w w':=by
 have H:=fun n a b w=>Lib.hid (zg9 n a b w)
 unfold verB
 cases h1:inB r 1 8
 · go_enter Tryz.func152,Tryz.ntmps152
   go_wp2_with (go_at_call 153;refine ((H _ _ _ _).out).mono ?_;rintro e w' ⟨rfl,rfl⟩)
   go_ret
   exact ⟨rfl,(Below.refl _ _).alloc (Nat.le_refl _) _⟩
 · go_enter Tryz.func152,Tryz.ntmps152
   go_wp2_with (go_at_call 153;refine ((H _ _ _ _).out).mono ?_;rintro e w' ⟨rfl,rfl⟩)
   go_ret
   exact ⟨rfl,(Below.refl _ _).alloc (Nat.le_refl _) _⟩
def farV (a b c d:Nat):Int:=if mayB a b && mayB c d then (Fl.iv a - Fl.iv c) * (Fl.iv a - Fl.iv c) + (Fl.iv b - Fl.iv d) * (Fl.iv b - Fl.iv d) else -1
theorem ze1 {a b:Nat} (h:mayB a b = true):Fl.IsInt a (Fl.iv a) ∧ Fl.IsInt b (Fl.iv b) ∧ (Fl.iv a).natAbs ≤ 1000 ∧ (Fl.iv b).natAbs ≤ 1000:=by
 unfold mayB at h
 simp only [Bool.and_eq_true] at h
 have h1:=Fl.wb_int h.1
 have h2:=Fl.wb_int h.2
 exact ⟨h1.1,h2.1,h1.2,h2.2⟩
theorem zll {p:Int} (h1:-2000 ≤ p) (h2:p ≤ 2000):0 ≤ p * p ∧ p * p ≤ 4000000:=by
 constructor
 · rcases Int.lt_or_le p 0 with h | h
   · have:=Int.mul_nonneg_of_nonpos_of_nonpos (Int.le_of_lt h) (Int.le_of_lt h);exact this
   · exact Int.mul_nonneg h h
 · have:=Int.mul_nonneg (show 0 ≤ 2000 - p by omega) (show 0 ≤ 2000 + p by omega)
   have e:(2000 - p) * (2000 + p) = 4000000 - p * p:=by
     rw [Int.sub_mul,Int.mul_add,Int.mul_add,Int.mul_comm 2000 p];omega
   omega
theorem zu6 (a b c d:Nat):-1 ≤ farV a b c d ∧ farV a b c d ≤ 8000000:=by
 unfold farV
 split
 · rename_i h
   simp only [Bool.and_eq_true] at h
   obtain ⟨_,_,b1,b2⟩:=ze1 h.1
   obtain ⟨_,_,b3,b4⟩:=ze1 h.2
   have h1:=zll (p:=Fl.iv a - Fl.iv c) (by omega) (by omega)
   have h2:=zll (p:=Fl.iv b - Fl.iv d) (by omega) (by omega)
   omega
 · omega
def zje (a b c d:Nat) (n:Int):Bool:=decide (0 ≤ farV a b c d) && decide (farV a b c d ≤ n)
end Go.Proofs.YthnllikalobmeaaGreat
namespace Go.Proofs.YthnllikalobmeaaGreat
set_option linter.unusedVariables false
set_option linter.unusedSimpArgs false
set_option maxRecDepth 100000
set_option maxHeartbeats 8000000
open Go.ChangeShapes Go.WideShapes Go.ChangeAt Go.RowKit Go.Deep
section
variable {H:Type} {enc:TypeId × Value → H} {P:Program} {w:World} {base:Nat} {spare:Nat → Bool} {held:Bool} {fuel:Nat} {t:TypeId} {cs:List Value} {x:DataW H × List MemPlace}
theorem zct {k:FloatKind} (ht:P.underlying t = some (.float k)) (h:DataW.trod enc P w base spare held fuel t cs = some x):∃ n,cs = [.float k n]:=by
 cases fuel with
 | zero=>simp [DataW.trod] at h
 | succ n =>
   unfold DataW.trod at h
   rw [ht] at h
   split at h <;> simp_all
theorem zl3 {fs:Array Field} (hone:oneCellFields P fs = true) {n:Nat} {xs:List (DataW H × List MemPlace)} (hl:cs.length = fs.size) (hxl:xs.length = fs.size)
   (hf:∀ (i:Nat) (f:Field),fs[i]? = some f → DataW.trod enc P w base spare held n f.type ((cs.drop f.offset).take (P.cellsOf f.type)) = xs[i]?)
   (i:Nat) (f:Field) (hi:fs[i]? = some f):∃ c y,cs[i]? = some c ∧ DataW.trod enc P w base spare held n f.type [c] = some y:=by
 have hlt:i < fs.size:=(Array.getElem?_eq_some_iff.1 hi).1
 have h1:=hf i f hi
 obtain ⟨o,k⟩:=hone_of hone i f hi
 rw [o,k,List.drop_eq_getElem_cons (by omega)] at h1
 exact ⟨cs[i],xs[i]'(by omega),List.getElem?_eq_getElem (by omega),h1.trans (List.getElem?_eq_getElem (by omega))⟩
end
end Go.Proofs.YthnllikalobmeaaGreat
