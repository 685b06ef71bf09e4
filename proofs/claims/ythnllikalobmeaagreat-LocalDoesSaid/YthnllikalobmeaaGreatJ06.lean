/- Joined: ItemA, ItemB0, ItemB, ItemC. -/
import Derived.Test.YthnllikalobmeaaGreatJ05
import Derived.Test.YthnllikalobmeaaGreatJ01
import Derived.Test.YthnllikalobmeaaGreatJ04
namespace Go.Proofs.YthnllikalobmeaaGreat
set_option linter.unusedVariables false
set_option linter.unusedSimpArgs false
set_option maxRecDepth 100000
set_option maxHeartbeats 8000000
open Go.RowKit
theorem y06h {p:Prop} (h:p):Hid p:=Lib.hid h
def low (c:UInt8):Bool:=decide (97 ≤ c.toNat) && decide (c.toNat ≤ 122)
def lows (l:List UInt8):Bool:=l.all low
def txtB (s:ByteArray):Bool:=decide (s.size ≤ 8) && lows s.data.toList
def zay (s:ByteArray):Bool:=decide (1 ≤ s.size) && txtB s
def feq (x y:Nat):Bool:=FloatKind.f64.format.order x y == some .eq
theorem zgx {x:Nat} (h:Fl.wb x = true):feq x x = true:=by
 have h1:=(Fl.wb_int h).1
 have h2:=Fl.order_int h1 h1
 unfold feq
 have h3:FloatKind.f64.format.order x x = some (compare (Fl.iv x) (Fl.iv x)):=h2
 rw [h3]
 simp
theorem zus {c:UInt8} (h1:97 ≤ c.toNat) (h2:c.toNat ≤ 122):low c = true:=by simp [low,h1,h2]
theorem zk0 {c:UInt8} (h:c.toNat < 97):low c = false:=by simp [low];omega
theorem zkz {c:UInt8} (h:122 < c.toNat):low c = false:=by simp [low];omega
theorem zii (s:ByteArray) (k:Nat) (h:k < s.size):s.data.toList.take (k + 1) = s.data.toList.take k ++ [s[k]]:=by
 rw [List.take_succ_eq_append_getElem (by simpa using h)];rfl
theorem zmn (s:ByteArray) (k:Nat) (h:k < s.size) (hl:lows (s.data.toList.take k) = true):lows (s.data.toList.take (k + 1)) = low s[k]:=by
 rw [zii s k h]
 unfold lows at *
 rw [List.all_append,hl];simp
theorem zkw (s:ByteArray) (k:Nat) (h:k < s.size) (hl:low s[k] = false):lows s.data.toList = false:=by
 unfold lows
 rw [List.all_eq_false]
 refine ⟨s[k],?_,by rw [hl];simp⟩
 have h':k < s.data.size:=h
 show s.data[k] ∈ s.data.toList
 exact Array.mem_toList_iff.2 (Array.getElem_mem h')
theorem zpc (s:ByteArray) (h:lows (s.data.toList.take s.size) = true):lows s.data.toList = true:=by
 rwa [List.take_of_length_le (by simp)] at h
theorem zlc (s:ByteArray) (w:World) :
   Calls Tryz.prog 142 #[.string s] w fun e w'=>e = .returned (.bool (txtB s)) ∧ w = w':=by
 by_cases h8:s.size ≤ 8
 · have e:txtB s = lows s.data.toList:=by simp [txtB,h8]
   rw [e]
   have h9:¬ (8:Int) < s.size:=by omega
   clear e
   go_enter Tryz.func142,Tryz.ntmps142
   go_wp2
   go_loop [3,9] (fun _ i=>∃ k:Nat,k ≤ s.size ∧ i = .int .i64 k ∧ lows (s.data.toList.take k) = true) (fun _ i=>s.size - (intOf i).toNat)
   case atStart=>exact ⟨0,Nat.zero_le _,rfl,by simp [lows]⟩
   case round =>
     obtain ⟨k,hk,rfl,hl⟩:=hrel
     by_cases hlt:k < s.size
     · have hn:=zmn s k hlt hl
       have HN:=y06h hn
       have HF:=y06h (zkw s k hlt)
       clear hn
       have HL:=y06h hl
       clear hl
       by_cases a1:s[k].toNat < 97
       · have hz:=HF.out (zk0 a1)
         have HZ:=y06h hz
         clear hz HF HN
         go_wp2
         go_ret
         exact ⟨zaa HZ.out.symm,rfl⟩
       · by_cases a2:122 < s[k].toNat
         · have hz:=HF.out (zkz a2)
           have HZ:=y06h hz
           clear hz HF HN
           go_wp2
           go_ret
           exact ⟨zaa HZ.out.symm,rfl⟩
         · have hz:=HN.out
           rw [zus (by omega) (by omega)] at hz
           have HZ:=y06h hz
           clear hz HF HN
           go_wp2
           go_round
           case rel=>exact ⟨k + 1,by omega,by go_num,HZ.out⟩
           case measure=>simp [intOf];omega
     · have e:k = s.size:=by omega
       subst e
       have HL:=y06h (zpc s hl)
       clear hl
       go_wp2
       go_ret
       exact ⟨zaa HL.out.symm,rfl⟩
 · have e:txtB s = false:=by simp [txtB,h8]
   rw [e]
   have h9:(8:Int) < s.size:=by omega
   go_enter Tryz.func142,Tryz.ntmps142
   go_wp2
   go_ret
   exact ⟨rfl,rfl⟩
theorem z09 {s:ByteArray} (h8:s.size ≤ 8):txtB s = lows s.data.toList:=by simp [txtB,h8]
theorem zzu {s:ByteArray} (h8:8 < s.size):txtB s = false:=by simp [txtB];omega
theorem zvu {s:ByteArray} (h:lows s.data.toList = false):txtB s = false:=by simp [txtB,h]
theorem zhh (s:ByteArray) (n:Int) (w:World) (hs:s.size ≤ maxLen) :
   Calls Tryz.prog 137 #[.string s,.int .i64 n] w fun e w'=>e = .returned (.bool (txtB s && decide (n ≤ s.size))) ∧ w = w':=by
 unfold maxLen at hs
 go_enter Tryz.func137,Tryz.ntmps137
 go_wp2
 go_loop [5] (fun i=>∃ k:Nat,k ≤ s.size ∧ k ≤ 8 ∧ i = .int .i64 k ∧ lows (s.data.toList.take k) = true) (fun i=>s.size - (intOf i).toNat)
 case atStart=>exact ⟨0,Nat.zero_le _,by omega,rfl,by simp [lows]⟩
 case round =>
   obtain ⟨k,hk,hk8,rfl,hl⟩:=hrel
   by_cases hlt:k < s.size
   · by_cases h8:k = 8
     · subst h8
       have HZ:=y06h (zzu hlt)
       have HL:=y06h hl
       clear hl
       go_wp2
       go_ret
       exact ⟨zaa (by rw [HZ.out];rfl),rfl⟩
     · have hn:=zmn s k hlt hl
       have HN:=y06h hn
       have HF:=y06h (zkw s k hlt)
       clear hn
       have HL:=y06h hl
       clear hl
       have g8:((k:Int) == 8) = false:=by rw [beq_eq_false_iff_ne];omega
       by_cases a1:s[k].toNat < 97
       · have HZ:=y06h (zvu (HF.out (zk0 a1)))
         clear HF HN
         go_wp2
         go_ret
         exact ⟨zaa (by rw [HZ.out];rfl),rfl⟩
       · by_cases a2:122 < s[k].toNat
         · have HZ:=y06h (zvu (HF.out (zkz a2)))
           clear HF HN
           go_wp2
           go_ret
           exact ⟨zaa (by rw [HZ.out];rfl),rfl⟩
         · have hz:=HN.out
           rw [zus (by omega) (by omega)] at hz
           have HZ:=y06h hz
           clear hz HF HN
           have hk9:k + 1 ≤ 8:=by omega
           clear h8 g8
           have g8:((k:Int) == 8) = false:=by rw [beq_eq_false_iff_ne];omega
           go_wp2
           go_round
           case rel=>exact ⟨k + 1,by omega,hk9,by go_num,HZ.out⟩
           case measure=>simp [intOf];omega
   · have e:k = s.size:=by omega
     subst e
     have HL:=y06h (zpc s hl)
     have HT:=y06h (z09 hk8)
     clear hl
     go_wp2
     go_ret
     exact ⟨zaa (by rw [HT.out,HL.out];simp),rfl⟩
theorem zhr (s:ByteArray) (h:s.size = 0):s = ⟨#[]⟩:=by
 cases s with
 | mk d=>have:d.size = 0:=h;rw [Array.size_eq_zero_iff.1 this]
theorem ze6 (s:ByteArray) (w:World) :
   Calls Tryz.prog 97 #[.string s] w fun e w'=>e = .returned (.bool (zay s)) ∧ w = w':=by
 have H:=y06h (zlc s w)
 by_cases h:s.size = 0
 · have e:=zhr s h
   subst e
   go_enter Tryz.func97,Tryz.ntmps97
   go_wp2
   go_ret
   exact ⟨zaa rfl,rfl⟩
 · have e:zay s = txtB s:=by simp [zay];omega
   rw [e]
   clear e
   have h1:s.toList ≠ []:=by
     intro hz
     exact h (by have:=congrArg List.length hz;rw [zji] at this;simpa using this)
   have h2:s.toList.isEmpty = false:=by rw [List.isEmpty_eq_false_iff];exact h1
   generalize txtB s = r at *
   clear h
   go_enter Tryz.func97,Tryz.ntmps97
   go_wp2_with (go_at_call 142;refine (H.out).mono ?_;rintro e w' ⟨rfl,rfl⟩)
   go_ret
   exact ⟨rfl,rfl⟩
theorem zho (s:ByteArray) (w:World) (hs:s.size ≤ maxLen) :
   Calls Tryz.prog 131 #[.string s] w fun e w'=>e = .returned (.bool (txtB s)) ∧ w = w':=by
 have H:=y06h (zhh s 0 w hs)
 have e:txtB s = (txtB s && decide ((0:Int) ≤ s.size)):=by
   have:(0:Int) ≤ s.size:=by omega
   simp
 rw [e]
 clear e
 generalize (txtB s && decide ((0:Int) ≤ s.size)) = r at *
 go_enter Tryz.func131,Tryz.ntmps131
 go_wp2_with (go_at_call 137;refine (H.out).mono ?_;rintro e w' ⟨rfl,rfl⟩)
 go_ret
 exact ⟨rfl,rfl⟩
theorem zes (s:ByteArray) (w:World) (hs:s.size ≤ maxLen) :
   Calls Tryz.prog 91 #[.string s] w fun e w'=>e = .returned (.bool (zay s)) ∧ w = w':=by
 have H:=y06h (zhh s 1 w hs)
 have e:zay s = (txtB s && decide ((1:Int) ≤ s.size)):=by
   unfold zay;rw [Bool.and_comm];congr 1;rw [decide_eq_decide];omega
 rw [e]
 clear e
 generalize (txtB s && decide ((1:Int) ≤ s.size)) = r at *
 go_enter Tryz.func91,Tryz.ntmps91
 go_wp2_with (go_at_call 137;refine (H.out).mono ?_;rintro e w' ⟨rfl,rfl⟩)
 go_ret
 exact ⟨rfl,rfl⟩
def inB (n a b:Int):Bool:=decide (a ≤ n) && decide (n ≤ b)
def verB (r c:Int):Bool:=inB r 1 8 && inB c 1 1000
theorem zio (n a b:Int) (w:World) :
   Calls Tryz.prog 153 #[.int .i64 n,.int .i64 a,.int .i64 b] w fun e w'=>e = .returned (.bool (inB n a b)) ∧ w = w':=by
 unfold inB
 by_cases h:a ≤ n <;> by_cases h':n ≤ b <;>
 ( go_enter Tryz.func153,Tryz.ntmps153
   go_wp2
   go_ret
   exact ⟨zaa (by simp [h,h']),rfl⟩ )
theorem znq (r c:Int) (w:World) :
   Calls Tryz.prog 152 #[.agg #[.int .i64 r,.int .i64 c]] w fun e w'=>e = .returned (.bool (verB r c)) ∧ Below w.heap.size w w':=by
 have H:=fun n a b w=>y06h (zio n a b w)
 unfold verB
 cases h1:inB r 1 8
 · go_enter Tryz.func152,Tryz.ntmps152
   go_wp2_with (go_at_call 153;refine ((H _ _ _ _).out).mono ?_;rintro e w' ⟨rfl,rfl⟩)
   go_ret
   exact ⟨rfl,(Below.refl _ _).alloc (Nat.le_refl _) _⟩
 · go_enter Tryz.func152,Tryz.ntmps152
   go_wp2_with (go_at_call 153;refine ((H _ _ _ _).out).mono ?_;rintro e w' ⟨rfl,rfl⟩)
   go_ret
   exact ⟨rfl,(Below.refl _ _).alloc (Nat.le_refl _) _⟩
theorem zpr (r c:Int) (w:World) :
   Calls Tryz.prog 134 #[.agg #[.int .i64 r,.int .i64 c]] w fun e w'=>e = .returned (.bool (verB r c)) ∧ Below w.heap.size w w':=by
 unfold verB inB
 by_cases h1:1 ≤ r
 · by_cases h2:r ≤ 8
   · by_cases h3:1 ≤ c
     · by_cases h4:c ≤ 1000
       all_goals
         go_enter Tryz.func134,Tryz.ntmps134
         go_wp2
         go_ret
         exact ⟨zaa (by simp [h1,h2,h3,h4]),(Below.refl _ _).alloc (Nat.le_refl _) _⟩
     · go_enter Tryz.func134,Tryz.ntmps134
       go_wp2
       go_ret
       exact ⟨zaa (by simp [h1,h2,h3];omega),(Below.refl _ _).alloc (Nat.le_refl _) _⟩
   · go_enter Tryz.func134,Tryz.ntmps134
     go_wp2
     go_ret
     exact ⟨zaa (by simp [h1];omega),(Below.refl _ _).alloc (Nat.le_refl _) _⟩
 · go_enter Tryz.func134,Tryz.ntmps134
   go_wp2
   go_ret
   exact ⟨zaa (by simp;omega),(Below.refl _ _).alloc (Nat.le_refl _) _⟩
def mayI (id:ByteArray) (r c st:Int) (kd:ByteArray) (n:Int) (x y:Nat):Bool :=
 zay id && (txtB kd && (verB r c && (inB st 1 1000000 && (inB n (-1000000) 1000000 && mayB x y))))
theorem zm8 (id:ByteArray) (r c st:Int) (kd:ByteArray) (n:Int) (x y:Nat) (d:Bool) (w:World) :
   Calls Tryz.prog 114 #[zef id r c st kd n x y d] w fun e w'=>e = .returned (.bool (mayI id r c st kd n x y)) ∧ Below w.heap.size w w':=by
 have H1:=fun w=>y06h (ze6 id w)
 have H2:=fun w=>y06h (zlc kd w)
 have H3:=fun w=>y06h (znq r c w)
 have H4:=fun a b c w=>y06h (zio a b c w)
 have H6:=fun w=>y06h (zc2 x y w)
 unfold mayI
 go_enter Tryz.func114,Tryz.ntmps114
 go_wp2_with (first | (go_at_call 97;refine ((H1 _).out).mono ?_;rintro e w' ⟨rfl,rfl⟩) | (go_at_call 142;refine ((H2 _).out).mono ?_;rintro e w' ⟨rfl,rfl⟩) | (go_at_call 152;refine ((H3 _).out).mono ?_;rintro e w' ⟨rfl,hb⟩;obtain ⟨hc,hf⟩:=zyc hb) | (go_at_call 153;refine ((H4 _ _ _ _).out).mono ?_;rintro e w' ⟨rfl,rfl⟩) | (go_at_call 150;refine ((H6 _).out).mono ?_;rintro e w' ⟨rfl,rfl⟩))
 all_goals
   go_ret
   refine ⟨zaa (by simp_all),?_⟩
   first | exact (Below.refl _ _).alloc (Nat.le_refl _) _ | exact zai hb
end Go.Proofs.YthnllikalobmeaaGreat
