/- Joined: FarM, HasM, Begins, FarA. -/
import Derived.Test.YthnllikalobmeaaGreatJ05
import Derived.Test.YthnllikalobmeaaGreatJ12
import Derived.Test.YthnllikalobmeaaGreatJ01
import Derived.Deep.CutBlock
import Derived.Deep.DeepCutAuto
namespace Go.Proofs.YthnllikalobmeaaGreat
set_option linter.unusedVariables false
set_option linter.unusedSimpArgs false
set_option maxRecDepth 100000
set_option maxHeartbeats 8000000
open Go.RowKit
theorem y13h {p:Prop} (h:p):Hid p:=Lib.hid h
def farV (a b c d:Nat):Int:=if mayB a b && mayB c d then (Fl.iv a - Fl.iv c) * (Fl.iv a - Fl.iv c) + (Fl.iv b - Fl.iv d) * (Fl.iv b - Fl.iv d) else -1
theorem zds {a b:Nat} (h:mayB a b = true):Fl.IsInt a (Fl.iv a) ∧ Fl.IsInt b (Fl.iv b) ∧ (Fl.iv a).natAbs ≤ 1000 ∧ (Fl.iv b).natAbs ≤ 1000:=by
 unfold mayB at h
 simp only [Bool.and_eq_true] at h
 have h1:=Fl.wb_int h.1
 have h2:=Fl.wb_int h.2
 exact ⟨h1.1,h2.1,h1.2,h2.2⟩
theorem ziu {p:Int} (h1:-2000 ≤ p) (h2:p ≤ 2000):0 ≤ p * p ∧ p * p ≤ 4000000:=by
 constructor
 · rcases Int.lt_or_le p 0 with h | h
   · have:=Int.mul_nonneg_of_nonpos_of_nonpos (Int.le_of_lt h) (Int.le_of_lt h);exact this
   · exact Int.mul_nonneg h h
 · have:=Int.mul_nonneg (show 0 ≤ 2000 - p by omega) (show 0 ≤ 2000 + p by omega)
   have e:(2000 - p) * (2000 + p) = 4000000 - p * p:=by
     rw [Int.sub_mul,Int.mul_add,Int.mul_add,Int.mul_comm 2000 p];omega
   omega
theorem zy3 (a b c d:Nat):-1 ≤ farV a b c d ∧ farV a b c d ≤ 8000000:=by
 unfold farV
 split
 · rename_i h
   simp only [Bool.and_eq_true] at h
   obtain ⟨_,_,b1,b2⟩:=zds h.1
   obtain ⟨_,_,b3,b4⟩:=zds h.2
   have h1:=ziu (p:=Fl.iv a - Fl.iv c) (by omega) (by omega)
   have h2:=ziu (p:=Fl.iv b - Fl.iv d) (by omega) (by omega)
   omega
 · omega
def zit (a b c d:Nat) (n:Int):Bool:=decide (0 ≤ farV a b c d) && decide (farV a b c d ≤ n)
end Go.Proofs.YthnllikalobmeaaGreat
namespace Go.Proofs.YthnllikalobmeaaGreat
set_option linter.unusedVariables false
set_option linter.unusedSimpArgs false
set_option maxRecDepth 100000
set_option maxHeartbeats 8000000
structure It where
 id:ByteArray
 kd:ByteArray
 num:Int
 ax:Nat
 ay:Nat
def begB (s t:ByteArray):Bool:=t.data.toList.isPrefixOf s.data.toList
namespace Pr
mutual
def hasB (i:It):Pr → Bool
 | node op t n x y k =>
   if op = 1 then true
   else if op = 3 then decide (i.kd.toList = t.toList)
   else if op = 4 then begB i.id t
   else if op = 5 then decide (i.num < n)
   else if op = 6 then decide (n ≤ i.num)
   else if op = 7 then zit i.ax i.ay x y n
   else if op = 8 then hasAll i k
   else if op = 9 then hasAny i k
   else if op = 10 then hasNot i k
   else false
def hasAll (i:It):List Pr → Bool | []=>true | a :: l=>hasB i a && hasAll i l
def hasAny (i:It):List Pr → Bool | []=>false | a :: l=>hasB i a || hasAny i l
def hasNot (i:It):List Pr → Bool | []=>false | a :: _=>!hasB i a
end
end Pr
end Go.Proofs.YthnllikalobmeaaGreat
namespace Go.Proofs.YthnllikalobmeaaGreat
set_option linter.unusedVariables false
set_option linter.unusedSimpArgs false
set_option maxRecDepth 100000
set_option maxHeartbeats 8000000
open Go.RowKit
theorem ztt {s t:ByteArray} {k:Nat} (h1:s.size ≤ k) (h2:k < t.size):begB s t = false:=by
 unfold begB
 cases h:t.data.toList.isPrefixOf s.data.toList with
 | false=>rfl
 | true =>
   have h3:=(List.isPrefixOf_iff_prefix.1 h).length_le
   have e1:t.data.toList.length = t.size:=by simp
   have e2:s.data.toList.length = s.size:=by simp
   omega
theorem zv2 {s t:ByteArray} {k:Nat} (hs:k < s.size) (ht:k < t.size) (h:s.data.toList.take k = t.data.toList.take k) (e:s[k] = t[k]):s.data.toList.take (k + 1) = t.data.toList.take (k + 1):=by
 rw [zii s k hs,zii t k ht,h,e]
theorem zv1 {s t:ByteArray} {k:Nat} (hs:k < s.size) (ht:k < t.size) (e:s[k] ≠ t[k]):begB s t = false:=by
 unfold begB
 cases h:t.data.toList.isPrefixOf s.data.toList with
 | false=>rfl
 | true =>
   obtain ⟨r,hr⟩:=List.isPrefixOf_iff_prefix.1 h
   have e1:s.data.toList[k]? = t.data.toList[k]?:=by
     rw [← hr,List.getElem?_append_left (by simpa using ht)]
   have e2:s.data.toList[k]? = some s[k]:=by
     rw [List.getElem?_eq_getElem (by simpa using hs)];rfl
   have e3:t.data.toList[k]? = some t[k]:=by
     rw [List.getElem?_eq_getElem (by simpa using ht)];rfl
   rw [e2,e3] at e1
   exact absurd (Option.some.inj e1) e
theorem zyw {s t:ByteArray} (h:s.data.toList.take t.size = t.data.toList.take t.size):begB s t = true:=by
 unfold begB
 rw [List.isPrefixOf_iff_prefix]
 have e:t.data.toList.take t.size = t.data.toList:=List.take_of_length_le (by simp)
 rw [e] at h
 exact ⟨s.data.toList.drop t.size,by rw [← h];exact List.take_append_drop _ _⟩
theorem zn0 (s t:ByteArray) (w:World) (hs:s.size ≤ maxLen) (ht:t.size ≤ maxLen) :
   Calls Tryz.prog 138 #[.string s,.string t] w fun e w'=>e = .returned (.bool (begB s t)) ∧ Below w.heap.size w w':=by
 unfold maxLen at hs ht
 go_enter Tryz.func138,Tryz.ntmps138
 go_wp2_with fail
 go_loopw [5] (fun i wr=>∃ k:Nat,k ≤ t.size ∧ i = .int .i64 k ∧ Hid (s.data.toList.take k = t.data.toList.take k) ∧ Below w.heap.size w wr) (fun i _=>t.size - (intOf i).toNat)
 case atStart=>exact ⟨0,Nat.zero_le _,rfl,by simp [Hid],Below.refl _ _⟩
 case round =>
   obtain ⟨k,hk,rfl,HS,hb⟩:=hrel
   have HB:=y13h hb
   clear hb
   by_cases hlt:k < t.size
   · by_cases hls:k < s.size
     · have d1:decide ((s.size:Int) ≤ (k:Int)) = false:=by simp;omega
       have k0:(0:Int) ≤ (k:Int):=by omega
       have k1:(k:Int) < (s.size:Int):=by omega
       have k2:(k:Int) < (t.size:Int):=by omega
       by_cases e:s[k] = t[k]
       · have HN:=y13h (zv2 hls hlt HS.out e)
         have d2:((s[k].toNat:Int) != (t[k].toNat:Int)) = false:=by rw [e];simp
         clear e
         go_wp2_with fail
         refine wp_region_quiet_below (by kernel_rfl) (by kernel_rfl) ?_
         repeat (first | go_big_quiet_step (fail) | quiet_step (fail))
         refine wpQuiet_nil ?_
         intro w7 hw'
         have hb':=y13h (zac hw')
         clear hw'
         go_wp2_with fail
         go_roundw
         case rel=>exact ⟨k + 1,by omega,by go_num,HN.out,HB.out.trans (hb'.out.mono HB.out.size)⟩
         case measure=>simp [intOf];omega
       · have HZ:=y13h (zv1 hls hlt e)
         have d2:((s[k].toNat:Int) != (t[k].toNat:Int)) = true:=by
           rw [bne_iff_ne];intro h;exact e (UInt8.toNat_inj.1 (by omega))
         clear e
         go_wp2_with fail
         refine wp_region_quiet_below (by kernel_rfl) (by kernel_rfl) ?_
         repeat (first | go_big_quiet_step (fail) | quiet_step (fail))
         refine wpQuiet_nil ?_
         intro w7 hw'
         have hb':=y13h (zac hw')
         clear hw'
         go_wp2_with fail
         go_ret
         exact ⟨zaa HZ.out.symm,HB.out.trans (hb'.out.mono HB.out.size)⟩
     · have d1:decide ((s.size:Int) ≤ (k:Int)) = true:=by simp;omega
       have HZ:=y13h (ztt (s:=s) (t:=t) (k:=k) (by omega) hlt)
       go_wp2_with fail
       refine wp_region_quiet_below (by kernel_rfl) (by kernel_rfl) ?_
       repeat (first | go_big_quiet_step (fail) | quiet_step (fail))
       refine wpQuiet_nil ?_
       intro w7 hw'
       have hb':=y13h (zac hw')
       clear hw'
       go_wp2_with fail
       go_ret
       exact ⟨zaa HZ.out.symm,HB.out.trans (hb'.out.mono HB.out.size)⟩
   · have e:k = t.size:=by omega
     subst e
     have HZ:=y13h (zyw HS.out)
     go_wp2_with fail
     go_ret
     exact ⟨zaa HZ.out.symm,HB.out⟩
theorem zpm (a b c d:Nat) (w:World) :
   Calls Tryz.prog 139 #[.complex .f64 a b,.complex .f64 c d] w fun e w'=>e = .returned (.int .i64 (farV a b c d)) ∧ w = w':=by
 unfold farV
 have H1:=y13h (zeg a b w)
 have H2:=y13h (zeg c d w)
 cases h1:mayB a b
 · have h1':=y13h h1
   clear h1
   generalize mayB c d = q at *
   go_enter Tryz.func139,Tryz.ntmps139
   go_wp2_with fail
   refine ((H1).out).mono ?_
   rw [h1'.out];rintro e w' ⟨rfl,rfl⟩
   go_wp2_with fail
   refine ((H2).out).mono ?_
   rintro e w' ⟨rfl,rfl⟩
   go_wp2
   go_ret
   exact ⟨rfl,rfl⟩
 · cases h2:mayB c d
   · have h1':=y13h h1
     have h2':=y13h h2
     clear h1 h2
     go_enter Tryz.func139,Tryz.ntmps139
     go_wp2_with fail
     refine ((H1).out).mono ?_
     rw [h1'.out];rintro e w' ⟨rfl,rfl⟩
     go_wp2_with fail
     refine ((H2).out).mono ?_
     rw [h2'.out];rintro e w' ⟨rfl,rfl⟩
     go_wp2
     go_ret
     exact ⟨rfl,rfl⟩
   · obtain ⟨ia,ib,ba,bb⟩:=zds h1
     obtain ⟨ic,id,bc,bd⟩:=zds h2
     have k1:=run_convert_float_int (P:=Tryz.prog) w 22 3 .f64 .i64 a _ (by kernel_rfl) (by kernel_rfl) (Fl.toIntVal_int ia (by omega))
     have k2:=run_convert_float_int (P:=Tryz.prog) w 22 3 .f64 .i64 b _ (by kernel_rfl) (by kernel_rfl) (Fl.toIntVal_int ib (by omega))
     have k3:=run_convert_float_int (P:=Tryz.prog) w 22 3 .f64 .i64 c _ (by kernel_rfl) (by kernel_rfl) (Fl.toIntVal_int ic (by omega))
     have k4:=run_convert_float_int (P:=Tryz.prog) w 22 3 .f64 .i64 d _ (by kernel_rfl) (by kernel_rfl) (Fl.toIntVal_int id (by omega))
     simp only [Bool.and_self,if_true]
     clear ia ib ic id
     generalize Fl.iv a = x at *
     generalize Fl.iv b = y at *
     generalize Fl.iv c = z at *
     generalize Fl.iv d = u at *
     have hp1:-2000 ≤ x - z:=by omega
     have hp2:x - z ≤ 2000:=by omega
     have hq1:-2000 ≤ y - u:=by omega
     have hq2:y - u ≤ 2000:=by omega
     obtain ⟨sp1,sp2⟩:=ziu hp1 hp2
     obtain ⟨sq1,sq2⟩:=ziu hq1 hq2
     have x1:-1000 ≤ x:=by omega
     have x2:x ≤ 1000:=by omega
     have y1:-1000 ≤ y:=by omega
     have y2:y ≤ 1000:=by omega
     have z1:-1000 ≤ z:=by omega
     have z2:z ≤ 1000:=by omega
     have u1:-1000 ≤ u:=by omega
     have u2:u ≤ 1000:=by omega
     clear ba bb bc bd
     have h1':=y13h h1
     have h2':=y13h h2
     clear h1 h2
     go_enter Tryz.func139,Tryz.ntmps139
     go_wp2_with fail
     refine ((H1).out).mono ?_
     rw [h1'.out];rintro e w' ⟨rfl,rfl⟩
     go_wp2_with fail
     refine ((H2).out).mono ?_
     rw [h2'.out];rintro e w' ⟨rfl,rfl⟩
     go_wp2
     go_ret
     exact ⟨rfl,rfl⟩
end Go.Proofs.YthnllikalobmeaaGreat
