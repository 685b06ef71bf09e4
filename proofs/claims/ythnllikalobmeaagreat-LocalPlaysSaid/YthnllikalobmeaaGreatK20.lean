/- Joined: Keys, KText, RegE, KGreat. -/
import Derived.Shelf.SlIter.Nil
import Derived.Shelf.SortM.Plain
import Derived.Shelf.SortM.SortNone
import Derived.Test.YthnllikalobmeaaGreatK07
import Derived.Test.YthnllikalobmeaaGreatK19
import Derived.Test.YthnllikalobmeaaGreatK06
import Derived.Test.YthnllikalobmeaaGreatK05
import Derived.Deep.RegionHeld
import Derived.Test.YthnllikalobmeaaGreatK03
import Derived.Test.YthnllikalobmeaaGreatK09
namespace Go.Proofs.YthnllikalobmeaaGreat
set_option linter.unusedVariables false
set_option linter.unusedSimpArgs false
set_option maxRecDepth 100000
set_option maxHeartbeats 8000000
open Go.RowKit Go.Maps Go.Sort Go.Shelf
theorem y20h {p:Prop} (h:p):Hid p:=Lib.hid h
def zlw:Go.Shelf.Ren:=⟨fun | 7=>129 | 10=>164 | n=>n,
 fun | 23=>145 | 26=>9 | 3=>28 | 28=>150 | 0=>0 | 27=>149 | 33=>122 | 4=>4 | n=>n,
 fun | n=>n⟩
theorem zxr:Go.Proofs.SlLaysZ.n7 Tryz.prog zlw:={
 mixed:=by kernel_rfl,
 f7:=⟨Tryz.f129.name,by decide,Tryz.func129.trans (congrArg some (by kernel_rfl))⟩,
 f10:=⟨Tryz.f164.name,by decide,Tryz.func164.trans (congrArg some (by kernel_rfl))⟩,
 t0:=Tryz.underlying0,
 a0:=Tryz.isAgg0,
 z0:=Tryz.sizeOf0,
 v0:=Tryz.zeroValue0,
 t4:=Tryz.underlying4,
 a4:=Tryz.isAgg4,
 z4:=Tryz.sizeOf4,
 v4:=Tryz.zeroValue4,
 t23:=Tryz.underlying145,
 a23:=Tryz.isAgg145,
 z23:=Tryz.sizeOf145,
 v23:=Tryz.zeroValue145,
 t26:=Tryz.underlying9,
 a26:=Tryz.isAgg9,
 z26:=Tryz.sizeOf9,
 v26:=Tryz.zeroValue9,
 t27:=Tryz.underlying149,
 a27:=Tryz.isAgg149,
 z27:=Tryz.sizeOf149,
 v27:=Tryz.zeroValue149,
 t28:=Tryz.underlying150,
 a28:=Tryz.isAgg150,
 z28:=Tryz.sizeOf150,
 v28:=Tryz.zeroValue150,
 t33:=Tryz.underlying122,
 a33:=Tryz.isAgg122,
 z33:=Tryz.sizeOf122,
 v33:=Tryz.zeroValue122 }
def zit:Go.Shelf.Ren:=⟨fun | 6=>128 | 8=>162 | 9=>163 | 11=>174 | 13=>176 | 12=>175 | 23=>188 | 24=>189 | 14=>179 | 15=>180 | 16=>181 | 17=>182 | 18=>183 | 19=>184 | 20=>185 | 21=>186 | 22=>187 | 25=>192 | 26=>193 | 27=>194 | 28=>195 | 29=>196 | 30=>168 | 31=>201 | n=>n,
 fun | 26=>9 | 28=>150 | 24=>103 | 0=>0 | 3=>3 | 37=>176 | 48=>190 | 50=>192 | 4=>4 | 40=>184 | 39=>183 | 45=>116 | 5=>5 | 9=>9 | 51=>193 | 55=>197 | 57=>202 | 58=>139 | 33=>122 | n=>n,
 fun | n=>n⟩
theorem zy2:Go.Proofs.SlLaysZ.n6 Tryz.prog zit:={
 mixed:=by kernel_rfl,
 f6:=⟨Tryz.f128.name,by decide,Tryz.func128.trans (congrArg some (by kernel_rfl))⟩,
 f8:=⟨Tryz.f162.name,by decide,Tryz.func162.trans (congrArg some (by kernel_rfl))⟩,
 f11:=⟨Tryz.f174.name,by decide,Tryz.func174.trans (congrArg some (by kernel_rfl))⟩,
 t0:=Tryz.underlying0,
 a0:=Tryz.isAgg0,
 z0:=Tryz.sizeOf0,
 v0:=Tryz.zeroValue0,
 t24:=Tryz.underlying103,
 a24:=Tryz.isAgg103,
 z24:=Tryz.sizeOf103,
 v24:=Tryz.zeroValue103,
 t26:=Tryz.underlying9,
 a26:=Tryz.isAgg9,
 z26:=Tryz.sizeOf9,
 v26:=Tryz.zeroValue9,
 t28:=Tryz.underlying150,
 a28:=Tryz.isAgg150,
 z28:=Tryz.sizeOf150,
 v28:=Tryz.zeroValue150,
 i26:=by kernel_rfl }
def zuz:Go.Shelf.Ren:=⟨fun | 6=>163 | 8=>176 | 9=>175 | 19=>188 | 20=>189 | 21=>179 | 22=>180 | 23=>181 | 24=>182 | 25=>183 | 26=>184 | 27=>185 | 28=>186 | 29=>187 | 36=>192 | 31=>193 | 32=>194 | 37=>195 | 38=>196 | 39=>168 | 41=>201 | n=>n,
 fun | 27=>103 | 29=>9 | 3=>3 | 32=>176 | 26=>103 | 0=>0 | 44=>190 | 46=>192 | 4=>4 | 36=>184 | 35=>183 | 41=>116 | 5=>5 | 9=>9 | 53=>193 | 57=>197 | 63=>202 | 64=>139 | n=>n,
 fun | n=>n⟩
theorem zxt:Go.Proofs.SlLaysM.n6 Tryz.prog zuz:={
 mixed:=by kernel_rfl,
 f6:=⟨Tryz.f163.name,by decide,Tryz.func163.trans (congrArg some (by kernel_rfl))⟩,
 f8:=Tryz.func176.trans (congrArg some (by kernel_rfl)),
 f9:=⟨Tryz.f175.name,by decide,Tryz.func175.trans (congrArg some (by kernel_rfl))⟩,
 f19:=Tryz.func188.trans (congrArg some (by kernel_rfl)),
 f20:=Tryz.func189.trans (congrArg some (by kernel_rfl)),
 f21:=⟨Tryz.f179.name,by decide,Tryz.func179.trans (congrArg some (by kernel_rfl))⟩,
 f22:=⟨Tryz.f180.name,by decide,Tryz.func180.trans (congrArg some (by kernel_rfl))⟩,
 f23:=⟨Tryz.f181.name,by decide,Tryz.func181.trans (congrArg some (by kernel_rfl))⟩,
 f24:=⟨Tryz.f182.name,by decide,Tryz.func182.trans (congrArg some (by kernel_rfl))⟩,
 f25:=⟨Tryz.f183.name,by decide,Tryz.func183.trans (congrArg some (by kernel_rfl))⟩,
 f26:=⟨Tryz.f184.name,by decide,Tryz.func184.trans (congrArg some (by kernel_rfl))⟩,
 f27:=⟨Tryz.f185.name,by decide,Tryz.func185.trans (congrArg some (by kernel_rfl))⟩,
 f28:=⟨Tryz.f186.name,by decide,Tryz.func186.trans (congrArg some (by kernel_rfl))⟩,
 f29:=⟨Tryz.f187.name,by decide,Tryz.func187.trans (congrArg some (by kernel_rfl))⟩,
 f31:=Tryz.func193.trans (congrArg some (by kernel_rfl)),
 f32:=Tryz.func194.trans (congrArg some (by kernel_rfl)),
 f36:=⟨Tryz.f192.name,by decide,Tryz.func192.trans (congrArg some (by kernel_rfl))⟩,
 f37:=⟨Tryz.f195.name,by decide,Tryz.func195.trans (congrArg some (by kernel_rfl))⟩,
 f38:=⟨Tryz.f196.name,by decide,Tryz.func196.trans (congrArg some (by kernel_rfl))⟩,
 f39:=⟨Tryz.f168.name,by decide,Tryz.func168.trans (congrArg some (by kernel_rfl))⟩,
 f41:=⟨Tryz.f201.name,by decide,Tryz.func201.trans (congrArg some (by kernel_rfl))⟩,
 t0:=Tryz.underlying0,
 a0:=Tryz.isAgg0,
 z0:=Tryz.sizeOf0,
 v0:=Tryz.zeroValue0,
 t3:=Tryz.underlying3,
 a3:=Tryz.isAgg3,
 z3:=Tryz.sizeOf3,
 v3:=Tryz.zeroValue3,
 t4:=Tryz.underlying4,
 a4:=Tryz.isAgg4,
 z4:=Tryz.sizeOf4,
 v4:=Tryz.zeroValue4,
 t5:=Tryz.underlying5,
 a5:=Tryz.isAgg5,
 z5:=Tryz.sizeOf5,
 v5:=Tryz.zeroValue5,
 t9:=Tryz.underlying9,
 a9:=Tryz.isAgg9,
 z9:=Tryz.sizeOf9,
 v9:=Tryz.zeroValue9,
 t26:=Tryz.underlying103,
 a26:=Tryz.isAgg103,
 z26:=Tryz.sizeOf103,
 v26:=Tryz.zeroValue103,
 t27:=Tryz.underlying103,
 a27:=Tryz.isAgg103,
 z27:=Tryz.sizeOf103,
 v27:=Tryz.zeroValue103,
 t29:=Tryz.underlying9,
 a29:=Tryz.isAgg9,
 z29:=Tryz.sizeOf9,
 v29:=Tryz.zeroValue9,
 t32:=Tryz.underlying176,
 a32:=Tryz.isAgg176,
 z32:=Tryz.sizeOf176,
 v32:=Tryz.zeroValue176,
 t35:=Tryz.underlying183,
 a35:=Tryz.isAgg183,
 z35:=Tryz.sizeOf183,
 v35:=Tryz.zeroValue183,
 t36:=Tryz.underlying184,
 a36:=Tryz.isAgg184,
 z36:=Tryz.sizeOf184,
 v36:=Tryz.zeroValue184,
 t41:=Tryz.underlying116,
 a41:=Tryz.isAgg116,
 z41:=Tryz.sizeOf116,
 v41:=Tryz.zeroValue116,
 t44:=Tryz.underlying190,
 a44:=Tryz.isAgg190,
 z44:=Tryz.sizeOf190,
 v44:=Tryz.zeroValue190,
 t46:=Tryz.underlying192,
 a46:=Tryz.isAgg192,
 z46:=Tryz.sizeOf192,
 v46:=Tryz.zeroValue192,
 t53:=Tryz.underlying193,
 a53:=Tryz.isAgg193,
 z53:=Tryz.sizeOf193,
 v53:=Tryz.zeroValue193,
 t57:=Tryz.underlying197,
 a57:=Tryz.isAgg197,
 z57:=Tryz.sizeOf197,
 v57:=Tryz.zeroValue197,
 t63:=Tryz.underlying202,
 a63:=Tryz.isAgg202,
 z63:=Tryz.sizeOf202,
 v63:=Tryz.zeroValue202,
 t64:=Tryz.underlying139,
 a64:=Tryz.isAgg139,
 z64:=Tryz.sizeOf139,
 v64:=Tryz.zeroValue139 }
theorem z0l (m:Nat):AnyZ.SortsIn Tryz.prog zit Fence.wide m :=
 ⟨fun blk off cap ss W hH hblk hsz=>callsIn_wide.2 (AnyM.slices_Sort_string zxt blk off cap ss W hH hblk hsz),
  fun p cap W=>callsIn_wide.2 (AnyM.slices_Sort_string_none zxt p cap W)⟩
theorem zrt (mb:Option Nat) (W:World):Calls Tryz.prog 129 #[.map mb] W fun e w'=>e = .returned (.func (.func 164) #[] #[.pointer (some ⟨W.heap.size,0,none⟩)]) ∧ w' = W.alloc (.cells #[.map mb] 145) :=
 callsIn_wide.1 (AnyZ.keys_in zxr Fence.wide 5 trivial rfl mb W)
theorem zsj {H:Type} (b nn:Nat) (D0:DataW H) (R:Value → Option (DataW H × List MemPlace)) (w:World) (hown:w.ownsMap Tryz.prog 9 R b nn D0) (hmax:Maps.size D0 ≤ maxLen) (hbytes:Maps.size D0 * 16 ≤ 140737488355328) :
   Calls Tryz.prog 128 #[.func (.func 164) #[] #[.pointer (some ⟨w.heap.size,0,none⟩)]] (w.alloc (.cells #[.map (some b)] 145)) fun e w'=>∃ (v:Value) (ss:List (List UInt8)),e = .returned v ∧ ss.Perm (strKeys D0) ∧
     w'.ownsRow (w.alloc (.cells #[.map (some b)] 145)).heap.size 9 1 v ss.length ((ss.mergeSort (fun x y=>decide (x ≤ y))).map encStr) ∧ (v = .slice none 0 0 ↔ ss = []) ∧ Below (w.alloc (.cells #[.map (some b)] 145)).heap.size (w.alloc (.cells #[.map (some b)] 145)) w':=by
 have hbl:=hown.lt
 have hseq:SeqGives Fence.wide 2 Tryz.prog 164 #[.pointer (some ⟨w.heap.size,0,none⟩)] encStr (fun ss=>ss.Perm (strKeys D0)) (Maps.size D0) (w.alloc (.cells #[.map (some b)] 145)) :=
   AnyZ.keys_gives (ρ:=zlw) { zxr with } Fence.wide _ trivial rfl (by omega) w.heap.size b nn D0 _ (by simp) (by simp) (by
     obtain ⟨es,clock,hb,Ft,hs,hD⟩:=hown
     exact ⟨es,clock,(Below.heap_alloc _ _ b hbl).trans hb,Ft,hs,hD⟩)
 exact callsIn_wide.1 (AnyZ.sorted_in zy2 Fence.wide 5 trivial trivial trivial trivial rfl (by omega) (z0l _) (enters_of Tryz.func163 (by kernel_rfl) rfl) 164 #[.pointer (some ⟨w.heap.size,0,none⟩)] trivial (enters_of Tryz.func164 (by kernel_rfl) rfl) _ _ hmax hbytes _ hseq)
theorem zih (s:ByteArray):s.toList = s.data.toList:=ByteArray.toList_eq s
theorem zp0 {ns:List ByteArray} (h:Rise ns):(ns.map fun s=>s.data.toList).Pairwise (fun a b=>(decide (a ≤ b)) = true):=by
 refine List.pairwise_map.2 (List.Pairwise.imp (fun {a b} hab=>?_) h)
 unfold lsB at hab
 rw [Go.Proofs.bytesLess_eq,zih,zih] at hab
 rw [decide_eq_true_eq] at *
 exact List.le_of_lt hab
theorem zsd {ns:List ByteArray} (h:Rise ns):(ns.map fun s=>s.data.toList).Nodup:=by
 refine List.pairwise_map.2 (List.Pairwise.imp (fun {a b} hab e=>?_) h)
 exact zfk hab (zkr (by rw [zih,zih];exact e))
theorem zr8 {H:Type} {D:DataW H} {ns:List ByteArray} (hr:Rise ns) (ht:Tidy D) (hk:∃ es,D = .map es ∧ ∀ p ∈ es,KeysOf Tryz.prog 9 p.1) (hm:∀ s:ByteArray,Maps.has D (.string s.data.toList) = true ↔ s ∈ ns):(ns.map fun s=>s.data.toList).Perm (strKeys D):=by
 obtain ⟨es,rfl,hp⟩:=ht
 obtain ⟨es',e,hk⟩:=hk
 cases e
 refine perm_strKeys hp (fun p hp'=>?_) (zsd hr) fun x=>?_
 · obtain ⟨v,hv⟩:=hk p hp'
   obtain ⟨x,_,hx,_⟩:=Maps.keyOf_str Tryz.underlying9 hv
   exact ⟨x,hx⟩
 · have h:=hm ⟨x.toArray⟩
   simp only [] at h
   rw [h,List.mem_map]
   constructor
   · rintro ⟨s,hs,rfl⟩
     exact hs
   · intro hs
     exact ⟨_,hs,rfl⟩
theorem zo3 {H:Type} (b nn:Nat) (D0:DataW H) (R:Value → Option (DataW H × List MemPlace)) (w:World) (hown:w.ownsMap Tryz.prog 9 R b nn D0) (ns:List ByteArray) (hr:Rise ns) (hm:∀ s:ByteArray,Maps.has D0 (.string s.data.toList) = true ↔ s ∈ ns) (hlen:ns.length ≤ 10000) :
   Calls Tryz.prog 128 #[.func (.func 164) #[] #[.pointer (some ⟨w.heap.size,0,none⟩)]] (w.alloc (.cells #[.map (some b)] 145)) fun e w'=>∃ (v:Value),e = .returned v ∧
     OwnT w' (w.heap.size + 1) ns v ∧ Below (w.heap.size + 1) (w.alloc (.cells #[.map (some b)] 145)) w':=by
 have hp:=zr8 hr (hown.tidy (string_keyed Tryz.underlying9)) hown.keysOf hm
 have hsz:Maps.size D0 = ns.length:=by
   obtain ⟨es,rfl,_⟩:=hown.keysOf
   have h1:=hp.length_eq
   simp only [strKeys,List.length_map] at h1
   rw [Maps.size_eq];exact h1.symm
 refine (zsj b nn D0 R w hown (by unfold maxLen;omega) (by omega)).mono ?_
 rintro e w' ⟨v,ss,rfl,hs,hrow,_,hb⟩
 have e1:(w.alloc (.cells #[.map (some b)] 145)).heap.size = w.heap.size + 1:=by simp
 rw [e1] at hrow hb
 refine ⟨v,rfl,?_,hb⟩
 have e2:ss.length = ns.length:=by rw [hs.length_eq,← hp.length_eq,List.length_map]
 have e3:ss.mergeSort (fun x y=>decide (x ≤ y)) = ns.map fun s=>s.data.toList:=by
   rw [show (ss.mergeSort fun x y=>decide (x ≤ y)) = _ from mergeSort_of_perm (hs.trans hp.symm)]
   exact List.mergeSort_of_pairwise (zp0 hr)
 have e4:(ns.map fun s=>s.data.toList).map encStr = txC ns:=by
   rw [List.map_map]
   unfold txC
   refine List.map_congr_left fun s _=>?_
   simp [encStr]
 unfold OwnT
 rw [e2,e3,e4] at hrow
 exact hrow
theorem z1o (mb:Option Nat) (W:World) (B:Nat) (hB:W.heap.size = B):Calls Tryz.prog 129 #[.map mb] W fun e w'=>e = .returned (.func (.func 164) #[] #[.pointer (some ⟨B,0,none⟩)]) ∧ w' = W.alloc (.cells #[.map mb] 145):=by
 subst hB
 exact zrt mb W
theorem zy3 {w:World} {b nn:Nat} {ids:List ByteArray} {raw:ByteArray → Nat → Int} (h:Cnt w b nn ids raw) (ns:List ByteArray) (hr:Rise ns) (hm:∀ s:ByteArray,s ∈ ids ↔ s ∈ ns) (hlen:ns.length ≤ 10000) (B:Nat) (hB:w.heap.size = B) :
   Calls Tryz.prog 128 #[.func (.func 164) #[] #[.pointer (some ⟨B,0,none⟩)]] (w.alloc (.cells #[.map (some b)] 145)) fun e w'=>∃ (v:Value),e = .returned v ∧
     OwnT w' (B + 1) ns v ∧ Below (B + 1) (w.alloc (.cells #[.map (some b)] 145)) w':=by
 subst hB
 obtain ⟨D,ho,_,hh⟩:=h
 exact zo3 b nn D zrs w ho ns hr (fun s=>(hh s).trans (hm s)) hlen
end Go.Proofs.YthnllikalobmeaaGreat
namespace Go.Proofs.YthnllikalobmeaaGreat
set_option linter.unusedVariables false
set_option linter.unusedSimpArgs false
set_option maxRecDepth 100000
set_option maxHeartbeats 8000000
open Go.RowKit
theorem zjk {l:List ByteArray} {k:Nat} {s x:ByteArray} (hx:l[k]? = some x) (h:za7 (l.take k) s = false) (hs:(s.toList == x.toList) = false):za7 (l.take (k + 1)) s = false:=by
 rw [zdg hx]
 unfold za7 at *
 rw [List.any_append,h]
 simp only [List.any_cons,List.any_nil,Bool.or_false,Bool.false_or]
 rw [tl_ne] at hs ⊢
 exact fun e=>hs e.symm
theorem zkv {l:List ByteArray} {k:Nat} {s x:ByteArray} (hx:l[k]? = some x) (hs:(s.toList == x.toList) = true):za7 l s = true:=by
 rw [tl_eq] at hs;subst hs
 exact among_iff.2 (List.mem_of_getElem? hx)
def zxz (l:List ByteArray) (s:ByteArray) (n:Nat) (w0:World) (i:Value) (wr:World):Prop:=∃ k:Nat,k ≤ n ∧ i = .int .i64 k ∧ Hid (za7 (l.take k) s = false) ∧ Hid (w0 = wr)
theorem zn7 (l:List ByteArray) (v:Value) (s:ByteArray) (w:World) (hT:TxW w l v) :
   Calls Tryz.prog 109 #[v,.string s] w fun e w'=>∃ n:Int,e = .returned (.int .i64 n) ∧ decide (0 ≤ n) = za7 l s ∧ w' = w:=by
 obtain ⟨oa,cap,b,o,rfl,hT⟩:=hT
 have h1:=hT.len
 have h2:=hT.max
 unfold maxLen at h2
 have HT:=y20h hT
 clear hT
 generalize hn:l.length = n at *
 have HN:=y20h hn
 clear hn
 go_enter Tryz.func109,Tryz.ntmps109
 go_wp2_with fail
 go_loopw [8] (fun i wr=>zxz l s n w i wr) (fun i _=>n - (intOf i).toNat)
 case atStart=>exact ⟨0,Nat.zero_le _,rfl,by simp [Hid,za7],rfl⟩
 case round =>
   obtain ⟨k,hk,rfl,HS,hw⟩:=hrel
   have ew:=hw.out
   subst ew
   clear hw
   by_cases hlt:k < n
   · obtain ⟨x,hx⟩:∃ x,l[k]? = some x:=⟨_,List.getElem?_eq_getElem (by rw [HN.out];exact hlt)⟩
     obtain ⟨rfl,hb⟩:=HT.out.at0 (by rw [HN.out];omega)
     have c0:=HT.out.cell k x hx
     cases hs:(s.toList == x.toList)
     · have HF:=y20h (zjk hx HS.out hs)
       clear HS
       go_wp2_with fail
       go_roundw
       case rel=>exact ⟨k + 1,by omega,by go_num,HF,rfl⟩
       case measure=>simp [intOf];omega
     · have HF:=y20h (zkv hx hs)
       clear HS
       go_wp2_with fail
       go_ret
       exact ⟨_,rfl,by rw [HF.out];simp,rfl⟩
   · have h:=HS.out
     rw [List.take_of_length_le (by rw [HN.out];omega)] at h
     have HF:=y20h h
     clear h HS
     go_wp2_with fail
     go_ret
     exact ⟨_,rfl,by rw [HF.out];simp,rfl⟩
theorem zjw (l:List ByteArray) (v:Value) (s:ByteArray) (w:World) (hT:TxW w l v) :
   Calls Tryz.prog 63 #[v,.string s] w fun e w'=>e = .returned (.bool (za7 l s)) ∧ w' = w:=by
 have C:=y20h (zn7 l v s w hT)
 obtain ⟨oa,cap,rfl⟩:=hT.val
 clear hT
 go_enter Tryz.func63,Tryz.ntmps63
 go_wp2_with (go_at_call 109;refine C.out.mono ?_;rintro e w' ⟨n,rfl,hn,rfl⟩)
 go_ret
 first | exact ⟨zaa hn,rfl⟩ | exact ⟨rfl,rfl⟩
def zzm (l m:List ByteArray) (n:Nat) (w0:World) (i:Value) (wr:World):Prop:=∃ k:Nat,k ≤ n ∧ i = .int .i64 k ∧ Hid (∀ j,j < k → l[j]? = m[j]?) ∧ Hid (Below w0.heap.size w0 wr)
theorem keqIds_iff:∀ {l m:List ByteArray},zca l m = true ↔ l = m
 | [],[]=>by simp [zca]
 | [],b :: m=>by simp [zca]
 | a :: l,[]=>by simp [zca]
 | a :: l,b :: m=>by
   have:=keqIds_iff (l:=l) (m:=m)
   simp only [zca,Bool.and_eq_true,List.cons.injEq]
   rw [this]
   constructor
   · rintro ⟨h1,h2⟩;exact ⟨by first | exact tl_eq.1 h1 | simpa using h1,h2⟩
   · rintro ⟨h1,h2⟩;subst h1;exact ⟨by simp,h2⟩
theorem zlv {l m:List ByteArray} (h:l ≠ m):zca l m = false:=by
 cases e:zca l m with
 | false=>rfl
 | true=>exact absurd (keqIds_iff.1 e) h
theorem zno (l m:List ByteArray) (v v':Value) (w:World) (hT:TxW w l v) (hM:TxW w m v') :
   Calls Tryz.prog 126 #[v,v'] w fun e w'=>e = .returned (.bool (zca l m)) ∧ Below w.heap.size w w':=by
 obtain ⟨oa,cap,b,o,rfl,hT⟩:=hT
 obtain ⟨oa',cap',b',o',rfl,hM⟩:=hM
 have h1:=hT.len
 have h2:=hT.max
 have h1':=hM.len
 have h2':=hM.max
 unfold maxLen at h2 h2'
 have HT:=y20h hT
 have HM:=y20h hM
 clear hT hM
 by_cases hl:l.length = m.length
 · rw [← hl] at h1' ⊢
   have HL:=y20h hl
   clear hl
   have hne:((l.length:Int) == (l.length:Int)) = true:=by simp
   generalize hn:l.length = n at *
   have HN:=y20h hn
   clear hn
   go_enter Tryz.func126,Tryz.ntmps126
   go_wp2_with fail
   go_loopw [13] (fun i wr=>zzm l m n w i wr) (fun i _=>n - (intOf i).toNat)
   case atStart=>exact ⟨0,Nat.zero_le _,rfl,y20h fun j hj=>absurd hj (by omega),y20h (Below.refl _ _)⟩
   case round =>
     obtain ⟨k,hk,rfl,HS,HB⟩:=hrel
     by_cases hlt:k < n
     · obtain ⟨x,hx⟩:∃ x,l[k]? = some x:=⟨_,List.getElem?_eq_getElem (by rw [HN.out];exact hlt)⟩
       obtain ⟨y,hy⟩:∃ y,m[k]? = some y:=⟨_,List.getElem?_eq_getElem (by rw [← HL.out];exact hlt)⟩
       obtain ⟨rfl,hb⟩:=HT.out.at0 (by rw [HN.out];omega)
       obtain ⟨rfl,hb'⟩:=HM.out.at0 (by rw [← HL.out];omega)
       have c0:=(HT.out.later HB.out (Nat.le_refl _)).cell k x hx
       have c1:=(HM.out.later HB.out (Nat.le_refl _)).cell k y hy
       have r0:=fun dd os=>cell_regrown c0 dd os
       have r1:=fun dd os=>cell_regrown c1 dd os
       have z0:b < wr.heap.size:=Nat.lt_of_lt_of_le hb HB.out.size
       have z1:b' < wr.heap.size:=Nat.lt_of_lt_of_le hb' HB.out.size
       have HX:=y20h hx
       have HY:=y20h hy
       have k0:(0:Int) ≤ (k:Int):=by omega
       have k1:(k:Int) < (n:Int):=by omega
       clear c0 c1 hx hy hb hb'
       cases hs:(x.toList == y.toList)
       · have HF:=y20h (show zca l m = false from zlv (fun e=>by
           have h1:=HX.out
           rw [e,HY.out] at h1
           cases h1;simp at hs))
         go_wp2_with fail
         refine wp_region_quiet_below (by kernel_rfl) (by kernel_rfl) ?_
         repeat (first | go_big_quiet_step (fail) | quiet_step (fail))
         refine wpQuiet_nil ?_
         intro w7 hw'
         have hb7:=y20h (zac hw')
         clear hw' r0 r1
         go_wp2_with fail
         go_ret
         exact ⟨zaa HF.out.symm,HB.out.trans (hb7.out.mono HB.out.size)⟩
       · have HF:=y20h (show ∀ j,j < k + 1 → l[j]? = m[j]? from fun j hj=>by
           by_cases e:j = k
           · subst e;rw [HX.out,HY.out,tl_eq.1 hs]
           · exact HS.out j (by omega))
         go_wp2_with fail
         refine wp_region_quiet_below (by kernel_rfl) (by kernel_rfl) ?_
         repeat (first | go_big_quiet_step (fail) | quiet_step (fail))
         refine wpQuiet_nil ?_
         intro w7 hw'
         have hb7:=y20h (zac hw')
         clear hw' r0 r1
         go_wp2_with fail
         go_roundw
         case rel=>exact ⟨k + 1,by omega,by go_num,HF,y20h (HB.out.trans (hb7.out.mono HB.out.size))⟩
         case measure=>simp [intOf];omega
     · have HF:=y20h (show zca l m = true from keqIds_iff.2 (List.ext_getElem? fun j=>by
         by_cases hj:j < k
         · exact HS.out j hj
         · rw [List.getElem?_eq_none (by rw [HN.out];omega),List.getElem?_eq_none (by rw [← HL.out];omega)]))
       go_wp2_with fail
       go_ret
       exact ⟨zaa HF.out.symm,HB.out⟩
 · have HF:=y20h (zlv (l:=l) (m:=m) (fun e=>hl (by rw [e])))
   have hne:((l.length:Int) == (m.length:Int)) = false:=by simp;omega
   clear hl
   go_enter Tryz.func126,Tryz.ntmps126
   go_wp2_with fail
   go_ret
   exact ⟨zaa HF.out.symm,Below.refl _ _⟩
def z09 (l:List ByteArray) (n:Nat) (w0:World) (i:Value) (wr:World):Prop:=∃ k:Nat,k ≤ n ∧ i = .int .i64 k ∧ Hid ((l.take k).any (fun s=>!zaz s) = false) ∧ Hid (w0 = wr)
theorem zr4 (s:ByteArray) (w:World) :
   Calls Tryz.prog 123 #[.string s] w fun e w'=>e = .returned (.bool (!zaz s)) ∧ w' = w:=by
 have H:=y20h (zer s w)
 generalize zaz s = r at *
 go_enter Tryz.func123,Tryz.ntmps123
 go_wp2_with (go_at_call 97;refine (H.out).mono ?_;rintro e w' ⟨rfl,rfl⟩)
 go_ret
 exact ⟨rfl,rfl⟩
theorem zn6 (l:List ByteArray) (v:Value) (w:World) (hT:TxW w l v) :
   Calls Tryz.prog 160 #[v,.func (Fn.func 123) #[] #[]] w fun e w'=>∃ n:Int,e = .returned (.int .i64 n) ∧ decide (0 ≤ n) = (l.any fun s=>!zaz s) ∧ w' = w:=by
 obtain ⟨oa,cap,b,o,rfl,hT⟩:=hT
 have h1:=hT.len
 have h2:=hT.max
 unfold maxLen at h2
 have HT:=y20h hT
 clear hT
 generalize hn:l.length = n at *
 have HN:=y20h hn
 clear hn
 go_enter Tryz.func160,Tryz.ntmps160
 go_wp2_with fail
 go_loopw [8] (fun i wr=>z09 l n w i wr) (fun i _=>n - (intOf i).toNat)
 case atStart=>exact ⟨0,Nat.zero_le _,rfl,by simp [Hid],rfl⟩
 case round =>
   obtain ⟨k,hk,rfl,HS,hw⟩:=hrel
   have ew:=hw.out
   subst ew
   clear hw
   by_cases hlt:k < n
   · obtain ⟨x,hx⟩:∃ x,l[k]? = some x:=⟨_,List.getElem?_eq_getElem (by rw [HN.out];exact hlt)⟩
     obtain ⟨rfl,hb⟩:=HT.out.at0 (by rw [HN.out];omega)
     have c0:=HT.out.cell k x hx
     have C:=y20h (zr4 x w)
     have HX:=y20h hx
     clear hx
     cases hs:zaz x
     · rw [hs] at C
       have HF:=y20h (show (l.any fun s=>!zaz s) = true from List.any_eq_true.2 ⟨x,List.mem_of_getElem? HX.out,by rw [hs];rfl⟩)
       clear HS
       go_wp2_with (go_at_call 123;refine C.out.mono ?_;rintro e w' ⟨rfl,rfl⟩)
       go_ret
       exact ⟨_,rfl,by rw [HF.out];simp,rfl⟩
     · rw [hs] at C
       have HF:=y20h (show ((l.take (k + 1)).any fun s=>!zaz s) = false by rw [zdg HX.out,List.any_append,HS.out];simp [hs])
       clear HS
       go_wp2_with (go_at_call 123;refine C.out.mono ?_;rintro e w' ⟨rfl,rfl⟩)
       go_roundw
       case rel=>exact ⟨k + 1,by omega,by go_num,HF,rfl⟩
       case measure=>simp [intOf];omega
   · have h:=HS.out
     rw [List.take_of_length_le (by rw [HN.out];omega)] at h
     have HF:=y20h h
     clear h HS
     go_wp2_with fail
     go_ret
     exact ⟨_,rfl,by rw [HF.out];simp,rfl⟩
theorem zjv (l:List ByteArray) (v:Value) (w:World) (hT:TxW w l v) :
   Calls Tryz.prog 122 #[v,.func (Fn.func 123) #[] #[]] w fun e w'=>e = .returned (.bool (l.any fun s=>!zaz s)) ∧ w' = w:=by
 have C:=y20h (zn6 l v w hT)
 obtain ⟨oa,cap,rfl⟩:=hT.val
 clear hT
 go_enter Tryz.func122,Tryz.ntmps122
 go_wp2_with (go_at_call 160;refine C.out.mono ?_;rintro e w' ⟨n,rfl,hn,rfl⟩)
 go_ret
 first | exact ⟨zaa hn,rfl⟩ | exact ⟨rfl,rfl⟩
end Go.Proofs.YthnllikalobmeaaGreat
namespace Go.Proofs.YthnllikalobmeaaGreat
set_option linter.unusedVariables false
set_option linter.unusedSimpArgs false
set_option maxRecDepth 100000
set_option maxHeartbeats 8000000
open Go
section
variable {P:Program} {ops:Array Oper} {Q:Exit → Act → World → Prop} {md:Region.Mode} {S T:World → Prop} {D:Nat → Bool}
def zcn (P:Program) (md:Region.Mode) (ops:Array Oper) (Q:Exit → Act → World → Prop) (S T:World → Prop) (D:Nat → Bool) (fuel:Nat) (listed:Array Bool) (a:Act) (w:World):Prop :=
 match fuel with
 | 0=>Region.ready md ops listed = [] ∧ Q .normal a w
 | n + 1=>(Region.ready md ops listed = [] → Q .normal a w) ∧ ∀ i ∈ Region.ready md ops listed,
     wpOp P ops Q i (fun a' w'=>(D i = false → S w → S w') ∧ (T w → T w') ∧ zcn P md ops Q S T D n (listed.setIfInBounds i true) a' w') a w
theorem zty:∀ (n:Nat) {l:Array Bool} {a:Act} {w:World},zcn P md ops Q S T D n l a w → wpAny P md ops Q n l a w:=by
 intro n
 induction n with
 | zero=>intro l a w h;exact h
 | succ n ih=>intro l a w h;exact ⟨h.1,fun i hi=>wpOp_mono (fun a' w' hk=>ih hk.2.2) (h.2 i hi)⟩
theorem zpw {i:Nat} {oi:Oper} {v:Value} (hi:ops[i]? = some oi) (hsel:∀ (j:Nat) (o:Oper) cs b,ops[j]? = some o → o.op ≠ .select cs b) (hQ:∀ c a w,Q (.panic c) (a.put oi.dst v) w → Q (.panic c) a w) (hW:zks md ops D i = true) :
   ∀ (n:Nat) {l:Array Bool} {a:Act} {w:World},(∀ j oj,ops[j]? = some oj → j ≠ i → l.getD j true = false → (∀ e ∈ oj.after,Region.binds md e = true → e.on ≠ i) → oi.apart ops oj = true) →
     i ∈ Region.ready md ops l → YieldsIf P ops S oi v a → S w → zcn P md ops Q S T D n (l.setIfInBounds i true) (a.put oi.dst v) w → zcn P md ops Q S T D (n + 1) l a w:=by
 intro n
 induction n with
 | zero =>
   intro l a w _ hr hy hS H
   refine ⟨fun h=>(by rw [h] at hr;cases hr),fun j hj=>?_⟩
   rcases Decidable.em (j = i) with e | e
   · subst e;exact hy.wpOp hi hS ⟨fun _ h=>h,fun h=>h,H⟩
   · have hm:=ready_mono hj e
     rw [H.1] at hm;cases hm
 | succ n ih =>
   intro l a w hfree hr hy hS H
   refine ⟨fun h=>(by rw [h] at hr;cases hr),fun j hj=>?_⟩
   rcases Decidable.em (j = i) with e | e
   · subst e;exact hy.wpOp hi hS ⟨fun _ h=>h,fun h=>h,H⟩
   · obtain ⟨hun,oj,hoj,hall⟩:=mem_ready.1 hj
     have hli:=(mem_ready.1 hr).1
     have hDj:=zq4 hW hj hoj hli
     have hno:∀ k ∈ oj.after,Region.binds md k = true → k.on ≠ i:=by
       intro k hk hb hki
       have h1:=hall k hk hb
       rw [hki] at h1
       rcases Nat.lt_or_ge i l.size with hl | hl
       · simp [hl] at hli h1;rw [hli] at h1;cases h1
       · simp [Array.getElem?_eq_none hl] at hli
     have hstep:=wpOp_putIf hoj (hfree j oj hoj e hun hno) (fun cs b=>hsel i oi cs b hi) (fun cs b=>hsel j oj cs b hoj) hQ hy (H.2 j (ready_mono hj e))
     refine wpOp_mono (fun a' w' hk=>⟨hk.2.1,hk.2.2.1,ih ?_ (ready_mono hr (Ne.symm e)) hk.1 (hk.2.1 hDj hS) ?_⟩) hstep
     · intro k ok hok hki hku hkno
       refine hfree k ok hok hki ?_ hkno
       rcases Decidable.em (j = k) with ejk | ejk
       · subst ejk;exact hun
       · rw [getD_set_ne true ejk] at hku;exact hku
     · rw [Array.setIfInBounds_comm _ _ e];exact hk.2.2.2
theorem zog {i:Nat} {oi:Oper} {v:Value} (hi:ops[i]? = some oi) (hsel:∀ (j:Nat) (o:Oper) cs b,ops[j]? = some o → o.op ≠ .select cs b) (hQ:∀ c a w,Q (.panic c) (a.put oi.dst v) w → Q (.panic c) a w) :
   ∀ (n:Nat) {l:Array Bool} {a:Act} {w:World},(∀ j oj,ops[j]? = some oj → j ≠ i → l.getD j true = false → (∀ e ∈ oj.after,Region.binds md e = true → e.on ≠ i) → oi.apart ops oj = true) →
     i ∈ Region.ready md ops l → YieldsIf P ops T oi v a → T w → zcn P md ops Q S T D n (l.setIfInBounds i true) (a.put oi.dst v) w → zcn P md ops Q S T D (n + 1) l a w:=by
 intro n
 induction n with
 | zero =>
   intro l a w _ hr hy hT H
   refine ⟨fun h=>(by rw [h] at hr;cases hr),fun j hj=>?_⟩
   rcases Decidable.em (j = i) with e | e
   · subst e;exact hy.wpOp hi hT ⟨fun _ h=>h,fun h=>h,H⟩
   · have hm:=ready_mono hj e
     rw [H.1] at hm;cases hm
 | succ n ih =>
   intro l a w hfree hr hy hT H
   refine ⟨fun h=>(by rw [h] at hr;cases hr),fun j hj=>?_⟩
   rcases Decidable.em (j = i) with e | e
   · subst e;exact hy.wpOp hi hT ⟨fun _ h=>h,fun h=>h,H⟩
   · obtain ⟨hun,oj,hoj,hall⟩:=mem_ready.1 hj
     have hli:=(mem_ready.1 hr).1
     have hno:∀ k ∈ oj.after,Region.binds md k = true → k.on ≠ i:=by
       intro k hk hb hki
       have h1:=hall k hk hb
       rw [hki] at h1
       rcases Nat.lt_or_ge i l.size with hl | hl
       · simp [hl] at hli h1;rw [hli] at h1;cases h1
       · simp [Array.getElem?_eq_none hl] at hli
     have hstep:=wpOp_putIf hoj (hfree j oj hoj e hun hno) (fun cs b=>hsel i oi cs b hi) (fun cs b=>hsel j oj cs b hoj) hQ hy (H.2 j (ready_mono hj e))
     refine wpOp_mono (fun a' w' hk=>⟨hk.2.1,hk.2.2.1,ih ?_ (ready_mono hr (Ne.symm e)) hk.1 (hk.2.2.1 hT) ?_⟩) hstep
     · intro k ok hok hki hku hkno
       refine hfree k ok hok hki ?_ hkno
       rcases Decidable.em (j = k) with ejk | ejk
       · subst ejk;exact hun
       · rw [getD_set_ne true ejk] at hku;exact hku
     · rw [Array.setIfInBounds_comm _ _ e];exact hk.2.2.2
theorem zct {i:Nat} {oi:Oper} {v:Value} {n:Nat} {l:Array Bool} {a:Act} {w:World} (hi:ops[i]? = some oi) (hs:Region.noSelect ops = true) (hf:Region.free md ops l i = true) (hr:(Region.ready md ops l).contains i = true) (hW:zks md ops D i = true)
   (hQ:∀ c a w,Q (.panic c) (a.put oi.dst v) w → Q (.panic c) a w) (hy:YieldsIf P ops S oi v a) (hS:S w) (h:zcn P md ops Q S T D n (l.setIfInBounds i true) (a.put oi.dst v) w):zcn P md ops Q S T D (n + 1) l a w :=
 zpw hi (Region.noSelect_spec hs) hQ hW n (Region.free_spec hi hf) (by simpa using hr) hy hS h
theorem zah {i:Nat} {oi:Oper} {v:Value} {n:Nat} {l:Array Bool} {a:Act} {w:World} (hi:ops[i]? = some oi) (hs:Region.noSelect ops = true) (hf:Region.free md ops l i = true) (hr:(Region.ready md ops l).contains i = true)
   (hQ:∀ c a w,Q (.panic c) (a.put oi.dst v) w → Q (.panic c) a w) (hy:YieldsIf P ops T oi v a) (hT:T w) (h:zcn P md ops Q S T D n (l.setIfInBounds i true) (a.put oi.dst v) w):zcn P md ops Q S T D (n + 1) l a w :=
 zog hi (Region.noSelect_spec hs) hQ n (Region.free_spec hi hf) (by simpa using hr) hy hT h
theorem za3 {i:Nat} {o:Oper} {n:Nat} {l:Array Bool} {a:Act} {w:World} (hr:Region.ready md ops l = [i]) (ho:ops[i]? = some o)
   (h:∀ K:Act → World → Prop,Shut (∀ a w,(D i = false → S w) → T w → ((D i = false → S w) → T w → zcn P md ops Q S T D n (l.setIfInBounds i true) a w) → K a w) → if Region.wanted o (yielded ops a.tmps) = true then Oper.wp P o a w K Q else K (a.put o.dst undef) w) :
   zcn P md ops Q S T D (n + 1) l a w:=by
 refine ⟨fun h0=>(by rw [hr] at h0;cases h0),fun j hj=>?_⟩
 rw [hr] at hj
 have e:j = i:=by simpa using hj
 subst e
 exact wpOp_step ho (fun K hK=>h K (fun a w h1 h2 h3=>hK a w ⟨fun hd _=>h1 hd,fun _=>h2,h3 h1 h2⟩))
theorem zcs {l:Array Bool} {a:Act} {w:World} (hr:Region.ready md ops l = []) (h:Q .normal a w):∀ n,zcn P md ops Q S T D n l a w
 | 0=>⟨hr,h⟩
 | _ + 1=>⟨fun _=>h,by rw [hr];simp⟩
theorem zcl {id:Nat} {a:Act} {w:World} (hm:P.follows .mixedOrders = true) (hS:S w.drew) (hT:T w.drew) (h:S w.drew → T w.drew → zcn P .any ops Q S T D ops.size (Array.replicate ops.size false) a w.drew):(Code.region id ops true).wp P Q a w :=
 wp_region_any hm (zty _ (h hS hT))
end
end Go.Proofs.YthnllikalobmeaaGreat
namespace Go.Proofs.YthnllikalobmeaaGreat
set_option linter.unusedVariables false
set_option linter.unusedSimpArgs false
set_option maxRecDepth 100000
set_option maxHeartbeats 8000000
open Go.RowKit Go.Maps
def rawJ (l:List Fr) (f:Fr) (j:Nat) (s:ByteArray):Nat → Int:=if za7 (f.ids.take j) s = true then maxV (rawF l s) f.v else rawF l s
theorem zuo (l:List Fr) (f:Fr):rawJ l f 0 = rawF l:=by
 funext s;simp [rawJ,za7]
theorem zwp (l:List Fr) {f:Fr} {k:Nat} (hf:l[k]? = some f):rawJ (l.take k) f f.ids.length = rawF (l.take (k + 1)):=by
 funext s
 rw [zdg hf]
 simp [rawJ,rawF,List.foldl_append,zb0]
theorem zt5 (A B:Nat → Int):maxV (maxV A B) B = maxV A B:=funext fun j=>zv7 A B j
theorem zun (l:List Fr) (f:Fr) {j:Nat} {s:ByteArray} (hs:f.ids[j]? = some s):(fun x=>if x = s then maxV (rawJ l f j s) f.v else rawJ l f j x) = rawJ l f (j + 1):=by
 funext x
 unfold rawJ
 rw [zdg hs]
 by_cases e:x = s
 · subst e
   have h1:za7 (f.ids.take j ++ [x]) x = true:=among_iff.2 (by simp)
   rw [if_pos rfl,h1,if_pos rfl]
   split
   · exact zt5 _ _
   · rfl
 · rw [if_neg e]
   have h1:za7 (f.ids.take j ++ [s]) x = za7 (f.ids.take j) x:=by
     cases h:za7 (f.ids.take j) x with
     | true=>exact among_iff.2 (by simp [among_iff.1 h])
     | false =>
       cases h':za7 (f.ids.take j ++ [s]) x with
       | false=>rfl
       | true =>
         have:=among_iff.1 h'
         simp [e] at this
         rw [among_iff.2 this] at h;cases h
   rw [h1]
theorem zj0 {l:List Fr} {k:Nat} {f:Fr} (hf:l[k]? = some f):zaf (l.take (k + 1)) = zaf (l.take k) ++ f.ids:=by
 rw [zdg hf];simp [zaf]
theorem zto {l:List Fr} {k:Nat}:(zaf (l.take k)).length ≤ (zaf l).length:=by
 unfold zaf
 conv=>rhs;rw [← List.take_append_drop k l]
 rw [List.flatMap_append,List.length_append];omega
def zxk (l:List Fr) (n:Nat) (w0:World) (i:Value) (wr:World):Prop :=
 ∃ k:Nat,k ≤ n ∧ i = .int .i64 k ∧ Hid (Cnt wr w0.heap.size (zaf (l.take k)).length (zaf (l.take k)) (rawF (l.take k))) ∧ Hid (Below w0.heap.size w0 wr)
def zxj (lk:List Fr) (f:Fr) (n:Nat) (w0:World) (X:Array Value) (bf:Nat) (i:Value) (wr:World):Prop :=
 ∃ j:Nat,j ≤ n ∧ i = .int .i64 j ∧ Hid (Cnt wr w0.heap.size ((zaf lk).length + j) (zaf lk ++ f.ids.take j) (rawJ lk f j)) ∧ Hid (Own wr bf X 105) ∧ Hid (Below w0.heap.size w0 wr)
theorem zkz (l:List Fr) (v:Value) (w:World) (hR:FrW w l v) (hlen:(zaf l).length ≤ 10000) :
   Calls Tryz.prog 127 #[v] w fun e w'=>e = .returned (.map (some w.heap.size)) ∧ Cnt w' w.heap.size (zaf l).length (zaf l) (rawF l) ∧ Below w.heap.size w w':=by
 obtain ⟨U,oa,cap,bl,o,rfl,hF⟩:=hR
 have hc1:=hF.len
 have hc2:=hF.max
 unfold maxLen at hc2
 have HF:=y20h hF
 clear hF
 have hmm:=@run_makeMap Tryz.prog
 have I0:zxk l l.length w (.int .i64 0) (w.alloc (.map #[] 0)):=⟨0,Nat.zero_le _,rfl,by rw [List.take_zero];exact y20h (Cnt.made w),y20h ((Below.refl _ _).alloc (Nat.le_refl _) _)⟩
 have HI:=y20h I0
 clear I0
 generalize hn:l.length = n at *
 have HN:=y20h hn
 clear hn
 go_enter Tryz.func127,Tryz.ntmps127
 go_wp2_with fail
 go_loopw [11] (fun i wr=>zxk l n w i wr) (fun i _=>n - (intOf i).toNat)
 case atStart=>exact HI.out
 case round =>
   clear HI
   obtain ⟨k,hk,rfl,HC,HB⟩:=hrel
   by_cases hlt:k < n
   · obtain ⟨f,hf⟩:∃ f,l[k]? = some f:=⟨_,List.getElem?_eq_getElem (by rw [HN.out];exact hlt)⟩
     have hat:=HF.out.at0 (by rw [HN.out];omega)
     obtain ⟨rfl,hbl⟩:=hat
     have FL:=HF.out.later HB.out (Nat.le_refl _)
     obtain ⟨c0,c1,c2,c3,c4,c5,c6,c7,c8⟩:=zbd (w:=wr) (fun j u hu=>FL.cell k f hf j u hu)
     have zl:bl < wr.heap.size:=Nat.lt_of_lt_of_le hbl HB.out.size
     obtain ⟨ob,cb,b',o',hU,hT⟩:=HF.out.ids k f hf
     have ht1:=hT.len
     have ht2:=hT.max
     unfold maxLen at ht2
     have HT:=y20h hT
     have HL:=y20h (show (zaf (l.take k)).length + f.ids.length ≤ 10000 by
       have h1:=zto (l:=l) (k:=k + 1)
       rw [zj0 hf,List.length_append] at h1
       omega)
     have HJ0:=y20h (zuo (l.take k) f)
     have HJ1:=y20h (zwp l hf)
     have HJ2:=y20h (zj0 hf)
     rw [hU] at c0
     clear FL hT hf
     generalize hk1:l.take (k + 1) = lk1 at *
     have HK1:=y20h hk1
     have hkn:=y20h hlt
     clear hk1
     generalize l.take k = lk at *
     have CA:=HC.out.later ((Below.refl _ wr).alloc (Nat.le_refl _) (.cells #[.slice ob f.ids.length cb,.int .i64 (f.v 0),.int .i64 (f.v 1),.int .i64 (f.v 2),.int .i64 (f.v 3),.int .i64 (f.v 4),.int .i64 (f.v 5),.int .i64 (f.v 6),.int .i64 (f.v 7)] 105))
     have J0:zxj lk f f.ids.length w #[.slice ob f.ids.length cb,.int .i64 (f.v 0),.int .i64 (f.v 1),.int .i64 (f.v 2),.int .i64 (f.v 3),.int .i64 (f.v 4),.int .i64 (f.v 5),.int .i64 (f.v 6),.int .i64 (f.v 7)] wr.heap.size (.int .i64 0) (wr.alloc (.cells #[.slice ob f.ids.length cb,.int .i64 (f.v 0),.int .i64 (f.v 1),.int .i64 (f.v 2),.int .i64 (f.v 3),.int .i64 (f.v 4),.int .i64 (f.v 5),.int .i64 (f.v 6),.int .i64 (f.v 7)] 105)) :=
       ⟨0,Nat.zero_le _,rfl,by rw [HJ0.out,List.take_zero,List.append_nil];exact y20h CA,y20h (Own.new _ _ _),y20h (HB.out.alloc HB.out.size _)⟩
     have HJ:=y20h J0
     have HC0:=HC.out.lt
     clear J0 CA HC HJ0
     have hbf:w.heap.size < wr.heap.size:=HC0
     generalize hm:f.ids.length = m at *
     have HM:=y20h hm
     clear hm
     go_upto_block 2 with fail
     clear c0 c1 c2 c3 c4 c5 c6 c7 c8 hlt zl hbl
     generalize wr.heap.size = bf at *
     go_wp2_with fail
     go_loopw [18] (fun i wr=>zxj lk f m w #[.slice ob m cb,.int .i64 (f.v 0),.int .i64 (f.v 1),.int .i64 (f.v 2),.int .i64 (f.v 3),.int .i64 (f.v 4),.int .i64 (f.v 5),.int .i64 (f.v 6),.int .i64 (f.v 7)] bf i wr) (fun i _=>m - (intOf i).toNat)
     case atStart=>exact HJ.out
     case round =>
       clear HJ HB
       obtain ⟨j,hj,rfl,HC,HO,HB⟩:=hrel
       by_cases hlt:j < m
       · obtain ⟨s,hs⟩:∃ s,f.ids[j]? = some s:=⟨_,List.getElem?_eq_getElem (by rw [HM.out];exact hlt)⟩
         obtain ⟨rfl,hbt⟩:=HT.out.at0 (by rw [HM.out];omega)
         have cs:=(HT.out.later HB.out (Nat.le_refl _)).cell j s hs
         have zt:b' < wr.heap.size:=Nat.lt_of_lt_of_le hbt HB.out.size
         have hsz:=HT.out.ok s (List.mem_of_getElem? hs)
         have hlk:=HC.out.look hsz
         have lo:=HO.out.cell
         have zo:=HO.out.lt
         have HS:=y20h (zun lk f hs)
         have HT2:=y20h (zdg hs)
         have hnn:(zaf lk).length + j < maxLen:=by have:=HL.out;unfold maxLen;omega
         have CM:=fun w'=>y20h (zpb (rawJ lk f j s) f.v w')
         have PUT:=fun w' (h3:Below wr.heap.size wr w')=>(HC.out.later h3).put hsz hnn (maxV (rawJ lk f j s) f.v)
         have PP:=y20h PUT
         have HZ:=y20h hsz
         clear hs hsz hbt PUT
         go_wp2_with (go_at_call 161;refine (CM _).out.mono ?_;rintro e w3 ⟨rfl,hb3⟩;obtain ⟨w4,hput,hc4,hg4⟩:=PP.out w3 hb3)
         have B4:=y20h ((HB.out.trans (hb3.mono HB.out.size)).grown hg4 (by have:=hb3.size;have:=HB.out.size;omega) (fun q hq=>by cases hq;exact Nat.le_refl _))
         have O4:=y20h ((HO.out.later hb3).grown hg4 (by simp;omega))
         go_roundw
         case rel=>exact ⟨j + 1,by omega,by go_num,by rw [HT2.out,← HS.out,← List.append_assoc];exact y20h hc4,O4,B4⟩
         case measure=>simp [intOf];omega
       · have e:j = m:=by omega
         subst e
         have HC2:=y20h (show Cnt wr w.heap.size (zaf lk1).length (zaf lk1) (rawF lk1) by
           have h:=HC.out
           rw [HJ1.out,← HM.out,List.take_length,← List.length_append,← HJ2.out] at h
           exact h)
         have hkn':=hkn.out
         go_wp2_with fail
         go_roundw
         case rel=>exact ⟨k + 1,by omega,by go_num,by rw [HK1.out];exact HC2,HB⟩
         case measure=>simp [intOf];omega
   · have e:k = n:=by omega
     have h:=HC.out
     rw [List.take_of_length_le (by rw [HN.out];omega)] at h
     have H7:=y20h h
     clear h e
     go_wp2_with fail
     go_ret
     exact ⟨rfl,H7.out,HB.out⟩
end Go.Proofs.YthnllikalobmeaaGreat
