/- Joined: Pfx, Keys, LCM, Known. -/
import Derived.Test.YthnllikalobmeaaGreatJ11
import Derived.Test.YthnllikalobmeaaGreatJ01
import Derived.Shelf.SlIter.Nil
import Derived.Shelf.SortM.Plain
import Derived.Shelf.SortM.SortNone
import Derived.Test.YthnllikalobmeaaGreatJ08
import Derived.Test.YthnllikalobmeaaGreatJ19
import Derived.Test.YthnllikalobmeaaGreatJ16
import Derived.Test.YthnllikalobmeaaGreatJ14
namespace Go.Proofs.YthnllikalobmeaaGreat
set_option linter.unusedVariables false
set_option linter.unusedSimpArgs false
set_option maxRecDepth 100000
set_option maxHeartbeats 8000000
open Go.RowKit
theorem y20h {p:Prop} (h:p):Hid p:=Lib.hid h
theorem zqm {s t:ByteArray} (h:s.size < t.size):begB s t = false:=by
 unfold begB
 cases h1:t.data.toList.isPrefixOf s.data.toList with
 | false=>rfl
 | true =>
   have h3:=(List.isPrefixOf_iff_prefix.1 h1).length_le
   have e1:t.data.toList.length = t.size:=by simp
   have e2:s.data.toList.length = s.size:=by simp
   omega
theorem zsq {s t:ByteArray} (h:t.size ≤ s.size):begB s t = (s.data.toList.take t.size == t.data.toList):=by
 unfold begB
 rw [Bool.eq_iff_iff,List.isPrefixOf_iff_prefix,beq_iff_eq,List.prefix_iff_eq_take]
 have e1:t.data.toList.length = t.size:=by simp
 rw [e1]
 exact eq_comm
theorem zlc (s t:ByteArray) (w:World) (hs:s.size ≤ maxLen) (ht:t.size ≤ maxLen) :
   Calls Tryz.prog 110 #[.string s,.string t] w fun e w'=>e = .returned (.bool (begB s t)) ∧ w = w':=by
 unfold maxLen at hs ht
 by_cases h:t.size ≤ s.size
 · have E:=y20h (zsq h)
   have h1:(t.size:Int) ≤ (s.size:Int):=by omega
   go_enter Tryz.func110,Tryz.ntmps110
   go_wp2_with fail
   go_ret
   refine ⟨zaa ?_,rfl⟩
   rw [E.out]
   rw [ByteArray.toList_eq,ByteArray.toList_eq]
   simp [ByteArray.data_extract]
 · have E:=y20h (zqm (s:=s) (t:=t) (by omega))
   have h1:(s.size:Int) < (t.size:Int):=by omega
   go_enter Tryz.func110,Tryz.ntmps110
   go_wp2_with fail
   go_ret
   exact ⟨zaa E.out.symm,rfl⟩
theorem zmy (s t:ByteArray) (w:World) (hs:s.size ≤ maxLen) (ht:t.size ≤ maxLen) :
   Calls Tryz.prog 64 #[.string s,.string t] w fun e w'=>e = .returned (.bool (begB s t)) ∧ w = w':=by
 have H:=y20h (zlc s t w hs ht)
 go_enter Tryz.func64,Tryz.ntmps64
 go_wp2_with (go_at_call 110;refine (H.out).mono ?_;rintro e w' ⟨rfl,rfl⟩)
 go_ret
 exact ⟨rfl,rfl⟩
end Go.Proofs.YthnllikalobmeaaGreat
namespace Go.Proofs.YthnllikalobmeaaGreat
set_option linter.unusedVariables false
set_option linter.unusedSimpArgs false
set_option maxRecDepth 100000
set_option maxHeartbeats 8000000
open Go.RowKit Go.Maps Go.Sort Go.Shelf
def zko:Go.Shelf.Ren:=⟨fun | 7=>129 | 10=>164 | n=>n,
 fun | 23=>145 | 26=>9 | 3=>28 | 28=>150 | 0=>0 | 27=>149 | 33=>122 | 4=>4 | n=>n,
 fun | n=>n⟩
theorem zuj:Go.Proofs.SlLaysZ.n7 Tryz.prog zko:={
 mixed:=by kernel_rfl,
 f7:=⟨Tryz.f129.name,by decide,Tryz.func129.trans (congrArg some (by kernel_rfl))⟩,
 f10:=⟨Tryz.f164.name,by decide,Tryz.func164.trans (congrArg some (by kernel_rfl))⟩,
 t0:=Tryz.underlying0,
 a0:=Tryz.isAgg0,
 z0:=Tryz.sizeOf0,
 v0:=Tryz.zeroValue0,
 t4:=Tryz.underlying4,
 a4:=Tryz.isAgg4,
 z4:=Tryz.sizeOf4,
 v4:=Tryz.zeroValue4,
 t23:=Tryz.underlying145,
 a23:=Tryz.isAgg145,
 z23:=Tryz.sizeOf145,
 v23:=Tryz.zeroValue145,
 t26:=Tryz.underlying9,
 a26:=Tryz.isAgg9,
 z26:=Tryz.sizeOf9,
 v26:=Tryz.zeroValue9,
 t27:=Tryz.underlying149,
 a27:=Tryz.isAgg149,
 z27:=Tryz.sizeOf149,
 v27:=Tryz.zeroValue149,
 t28:=Tryz.underlying150,
 a28:=Tryz.isAgg150,
 z28:=Tryz.sizeOf150,
 v28:=Tryz.zeroValue150,
 t33:=Tryz.underlying122,
 a33:=Tryz.isAgg122,
 z33:=Tryz.sizeOf122,
 v33:=Tryz.zeroValue122 }
def zhv:Go.Shelf.Ren:=⟨fun | 6=>128 | 8=>162 | 9=>163 | 11=>174 | 13=>176 | 12=>175 | 23=>188 | 24=>189 | 14=>179 | 15=>180 | 16=>181 | 17=>182 | 18=>183 | 19=>184 | 20=>185 | 21=>186 | 22=>187 | 25=>192 | 26=>193 | 27=>194 | 28=>195 | 29=>196 | 30=>168 | 31=>201 | n=>n,
 fun | 26=>9 | 28=>150 | 24=>103 | 0=>0 | 3=>3 | 37=>176 | 48=>190 | 50=>192 | 4=>4 | 40=>184 | 39=>183 | 45=>116 | 5=>5 | 9=>9 | 51=>193 | 55=>197 | 57=>202 | 58=>139 | 33=>122 | n=>n,
 fun | n=>n⟩
theorem zvv:Go.Proofs.SlLaysZ.n6 Tryz.prog zhv:={
 mixed:=by kernel_rfl,
 f6:=⟨Tryz.f128.name,by decide,Tryz.func128.trans (congrArg some (by kernel_rfl))⟩,
 f8:=⟨Tryz.f162.name,by decide,Tryz.func162.trans (congrArg some (by kernel_rfl))⟩,
 f11:=⟨Tryz.f174.name,by decide,Tryz.func174.trans (congrArg some (by kernel_rfl))⟩,
 t0:=Tryz.underlying0,
 a0:=Tryz.isAgg0,
 z0:=Tryz.sizeOf0,
 v0:=Tryz.zeroValue0,
 t24:=Tryz.underlying103,
 a24:=Tryz.isAgg103,
 z24:=Tryz.sizeOf103,
 v24:=Tryz.zeroValue103,
 t26:=Tryz.underlying9,
 a26:=Tryz.isAgg9,
 z26:=Tryz.sizeOf9,
 v26:=Tryz.zeroValue9,
 t28:=Tryz.underlying150,
 a28:=Tryz.isAgg150,
 z28:=Tryz.sizeOf150,
 v28:=Tryz.zeroValue150,
 i26:=by kernel_rfl }
def zr7:Go.Shelf.Ren:=⟨fun | 6=>163 | 8=>176 | 9=>175 | 19=>188 | 20=>189 | 21=>179 | 22=>180 | 23=>181 | 24=>182 | 25=>183 | 26=>184 | 27=>185 | 28=>186 | 29=>187 | 36=>192 | 31=>193 | 32=>194 | 37=>195 | 38=>196 | 39=>168 | 41=>201 | n=>n,
 fun | 27=>103 | 29=>9 | 3=>3 | 32=>176 | 26=>103 | 0=>0 | 44=>190 | 46=>192 | 4=>4 | 36=>184 | 35=>183 | 41=>116 | 5=>5 | 9=>9 | 53=>193 | 57=>197 | 63=>202 | 64=>139 | n=>n,
 fun | n=>n⟩
theorem zul:Go.Proofs.SlLaysM.n6 Tryz.prog zr7:={
 mixed:=by kernel_rfl,
 f6:=⟨Tryz.f163.name,by decide,Tryz.func163.trans (congrArg some (by kernel_rfl))⟩,
 f8:=Tryz.func176.trans (congrArg some (by kernel_rfl)),
 f9:=⟨Tryz.f175.name,by decide,Tryz.func175.trans (congrArg some (by kernel_rfl))⟩,
 f19:=Tryz.func188.trans (congrArg some (by kernel_rfl)),
 f20:=Tryz.func189.trans (congrArg some (by kernel_rfl)),
 f21:=⟨Tryz.f179.name,by decide,Tryz.func179.trans (congrArg some (by kernel_rfl))⟩,
 f22:=⟨Tryz.f180.name,by decide,Tryz.func180.trans (congrArg some (by kernel_rfl))⟩,
 f23:=⟨Tryz.f181.name,by decide,Tryz.func181.trans (congrArg some (by kernel_rfl))⟩,
 f24:=⟨Tryz.f182.name,by decide,Tryz.func182.trans (congrArg some (by kernel_rfl))⟩,
 f25:=⟨Tryz.f183.name,by decide,Tryz.func183.trans (congrArg some (by kernel_rfl))⟩,
 f26:=⟨Tryz.f184.name,by decide,Tryz.func184.trans (congrArg some (by kernel_rfl))⟩,
 f27:=⟨Tryz.f185.name,by decide,Tryz.func185.trans (congrArg some (by kernel_rfl))⟩,
 f28:=⟨Tryz.f186.name,by decide,Tryz.func186.trans (congrArg some (by kernel_rfl))⟩,
 f29:=⟨Tryz.f187.name,by decide,Tryz.func187.trans (congrArg some (by kernel_rfl))⟩,
 f31:=Tryz.func193.trans (congrArg some (by kernel_rfl)),
 f32:=Tryz.func194.trans (congrArg some (by kernel_rfl)),
 f36:=⟨Tryz.f192.name,by decide,Tryz.func192.trans (congrArg some (by kernel_rfl))⟩,
 f37:=⟨Tryz.f195.name,by decide,Tryz.func195.trans (congrArg some (by kernel_rfl))⟩,
 f38:=⟨Tryz.f196.name,by decide,Tryz.func196.trans (congrArg some (by kernel_rfl))⟩,
 f39:=⟨Tryz.f168.name,by decide,Tryz.func168.trans (congrArg some (by kernel_rfl))⟩,
 f41:=⟨Tryz.f201.name,by decide,Tryz.func201.trans (congrArg some (by kernel_rfl))⟩,
 t0:=Tryz.underlying0,
 a0:=Tryz.isAgg0,
 z0:=Tryz.sizeOf0,
 v0:=Tryz.zeroValue0,
 t3:=Tryz.underlying3,
 a3:=Tryz.isAgg3,
 z3:=Tryz.sizeOf3,
 v3:=Tryz.zeroValue3,
 t4:=Tryz.underlying4,
 a4:=Tryz.isAgg4,
 z4:=Tryz.sizeOf4,
 v4:=Tryz.zeroValue4,
 t5:=Tryz.underlying5,
 a5:=Tryz.isAgg5,
 z5:=Tryz.sizeOf5,
 v5:=Tryz.zeroValue5,
 t9:=Tryz.underlying9,
 a9:=Tryz.isAgg9,
 z9:=Tryz.sizeOf9,
 v9:=Tryz.zeroValue9,
 t26:=Tryz.underlying103,
 a26:=Tryz.isAgg103,
 z26:=Tryz.sizeOf103,
 v26:=Tryz.zeroValue103,
 t27:=Tryz.underlying103,
 a27:=Tryz.isAgg103,
 z27:=Tryz.sizeOf103,
 v27:=Tryz.zeroValue103,
 t29:=Tryz.underlying9,
 a29:=Tryz.isAgg9,
 z29:=Tryz.sizeOf9,
 v29:=Tryz.zeroValue9,
 t32:=Tryz.underlying176,
 a32:=Tryz.isAgg176,
 z32:=Tryz.sizeOf176,
 v32:=Tryz.zeroValue176,
 t35:=Tryz.underlying183,
 a35:=Tryz.isAgg183,
 z35:=Tryz.sizeOf183,
 v35:=Tryz.zeroValue183,
 t36:=Tryz.underlying184,
 a36:=Tryz.isAgg184,
 z36:=Tryz.sizeOf184,
 v36:=Tryz.zeroValue184,
 t41:=Tryz.underlying116,
 a41:=Tryz.isAgg116,
 z41:=Tryz.sizeOf116,
 v41:=Tryz.zeroValue116,
 t44:=Tryz.underlying190,
 a44:=Tryz.isAgg190,
 z44:=Tryz.sizeOf190,
 v44:=Tryz.zeroValue190,
 t46:=Tryz.underlying192,
 a46:=Tryz.isAgg192,
 z46:=Tryz.sizeOf192,
 v46:=Tryz.zeroValue192,
 t53:=Tryz.underlying193,
 a53:=Tryz.isAgg193,
 z53:=Tryz.sizeOf193,
 v53:=Tryz.zeroValue193,
 t57:=Tryz.underlying197,
 a57:=Tryz.isAgg197,
 z57:=Tryz.sizeOf197,
 v57:=Tryz.zeroValue197,
 t63:=Tryz.underlying202,
 a63:=Tryz.isAgg202,
 z63:=Tryz.sizeOf202,
 v63:=Tryz.zeroValue202,
 t64:=Tryz.underlying139,
 a64:=Tryz.isAgg139,
 z64:=Tryz.sizeOf139,
 v64:=Tryz.zeroValue139 }
theorem zw6 (m:Nat):AnyZ.SortsIn Tryz.prog zhv Fence.wide m :=
 ⟨fun blk off cap ss W hH hblk hsz=>callsIn_wide.2 (AnyM.slices_Sort_string zul blk off cap ss W hH hblk hsz),
  fun p cap W=>callsIn_wide.2 (AnyM.slices_Sort_string_none zul p cap W)⟩
theorem zpk (mb:Option Nat) (W:World):Calls Tryz.prog 129 #[.map mb] W fun e w'=>e = .returned (.func (.func 164) #[] #[.pointer (some ⟨W.heap.size,0,none⟩)]) ∧ w' = W.alloc (.cells #[.map mb] 145) :=
 callsIn_wide.1 (AnyZ.keys_in zuj Fence.wide 5 trivial rfl mb W)
theorem zp8 {H:Type} (b nn:Nat) (D0:DataW H) (R:Value → Option (DataW H × List MemPlace)) (w:World) (hown:w.ownsMap Tryz.prog 9 R b nn D0) (hmax:Maps.size D0 ≤ maxLen) (hbytes:Maps.size D0 * 16 ≤ 140737488355328) :
   Calls Tryz.prog 128 #[.func (.func 164) #[] #[.pointer (some ⟨w.heap.size,0,none⟩)]] (w.alloc (.cells #[.map (some b)] 145)) fun e w'=>∃ (v:Value) (ss:List (List UInt8)),e = .returned v ∧ ss.Perm (strKeys D0) ∧
     w'.ownsRow (w.alloc (.cells #[.map (some b)] 145)).heap.size 9 1 v ss.length ((ss.mergeSort (fun x y=>decide (x ≤ y))).map encStr) ∧ (v = .slice none 0 0 ↔ ss = []) ∧ Below (w.alloc (.cells #[.map (some b)] 145)).heap.size (w.alloc (.cells #[.map (some b)] 145)) w':=by
 have hbl:=hown.lt
 have hseq:SeqGives Fence.wide 2 Tryz.prog 164 #[.pointer (some ⟨w.heap.size,0,none⟩)] encStr (fun ss=>ss.Perm (strKeys D0)) (Maps.size D0) (w.alloc (.cells #[.map (some b)] 145)) :=
   AnyZ.keys_gives (ρ:=zko) { zuj with } Fence.wide _ trivial rfl (by omega) w.heap.size b nn D0 _ (by simp) (by simp) (by
     obtain ⟨es,clock,hb,Ft,hs,hD⟩:=hown
     exact ⟨es,clock,(Below.heap_alloc _ _ b hbl).trans hb,Ft,hs,hD⟩)
 exact callsIn_wide.1 (AnyZ.sorted_in zvv Fence.wide 5 trivial trivial trivial trivial rfl (by omega) (zw6 _) (enters_of Tryz.func163 (by kernel_rfl) rfl) 164 #[.pointer (some ⟨w.heap.size,0,none⟩)] trivial (enters_of Tryz.func164 (by kernel_rfl) rfl) _ _ hmax hbytes _ hseq)
theorem zhh (s:ByteArray):s.toList = s.data.toList:=ByteArray.toList_eq s
theorem znv {ns:List ByteArray} (h:Rise ns):(ns.map fun s=>s.data.toList).Pairwise (fun a b=>(decide (a ≤ b)) = true):=by
 refine List.pairwise_map.2 (List.Pairwise.imp (fun {a b} hab=>?_) h)
 unfold lsB at hab
 rw [Go.Proofs.bytesLess_eq,zhh,zhh] at hab
 rw [decide_eq_true_eq] at *
 exact List.le_of_lt hab
theorem zp2 {ns:List ByteArray} (h:Rise ns):(ns.map fun s=>s.data.toList).Nodup:=by
 refine List.pairwise_map.2 (List.Pairwise.imp (fun {a b} hab e=>?_) h)
 exact zez hab (zjp (by rw [zhh,zhh];exact e))
theorem zp1 {H:Type} {D:DataW H} {ns:List ByteArray} (hr:Rise ns) (ht:Tidy D) (hk:∃ es,D = .map es ∧ ∀ p ∈ es,KeysOf Tryz.prog 9 p.1) (hm:∀ s:ByteArray,Maps.has D (.string s.data.toList) = true ↔ s ∈ ns):(ns.map fun s=>s.data.toList).Perm (strKeys D):=by
 obtain ⟨es,rfl,hp⟩:=ht
 obtain ⟨es',e,hk⟩:=hk
 cases e
 refine perm_strKeys hp (fun p hp'=>?_) (zp2 hr) fun x=>?_
 · obtain ⟨v,hv⟩:=hk p hp'
   obtain ⟨x,_,hx,_⟩:=Maps.keyOf_str Tryz.underlying9 hv
   exact ⟨x,hx⟩
 · have h:=hm ⟨x.toArray⟩
   simp only [] at h
   rw [h,List.mem_map]
   constructor
   · rintro ⟨s,hs,rfl⟩
     exact hs
   · intro hs
     exact ⟨_,hs,rfl⟩
theorem zm3 {H:Type} (b nn:Nat) (D0:DataW H) (R:Value → Option (DataW H × List MemPlace)) (w:World) (hown:w.ownsMap Tryz.prog 9 R b nn D0) (ns:List ByteArray) (hr:Rise ns) (hm:∀ s:ByteArray,Maps.has D0 (.string s.data.toList) = true ↔ s ∈ ns) (hlen:ns.length ≤ 10000) :
   Calls Tryz.prog 128 #[.func (.func 164) #[] #[.pointer (some ⟨w.heap.size,0,none⟩)]] (w.alloc (.cells #[.map (some b)] 145)) fun e w'=>∃ (v:Value),e = .returned v ∧
     OwnT w' (w.heap.size + 1) ns v ∧ Below (w.heap.size + 1) (w.alloc (.cells #[.map (some b)] 145)) w':=by
 have hp:=zp1 hr (hown.tidy (string_keyed Tryz.underlying9)) hown.keysOf hm
 have hsz:Maps.size D0 = ns.length:=by
   obtain ⟨es,rfl,_⟩:=hown.keysOf
   have h1:=hp.length_eq
   simp only [strKeys,List.length_map] at h1
   rw [Maps.size_eq];exact h1.symm
 refine (zp8 b nn D0 R w hown (by unfold maxLen;omega) (by omega)).mono ?_
 rintro e w' ⟨v,ss,rfl,hs,hrow,_,hb⟩
 have e1:(w.alloc (.cells #[.map (some b)] 145)).heap.size = w.heap.size + 1:=by simp
 rw [e1] at hrow hb
 refine ⟨v,rfl,?_,hb⟩
 have e2:ss.length = ns.length:=by rw [hs.length_eq,← hp.length_eq,List.length_map]
 have e3:ss.mergeSort (fun x y=>decide (x ≤ y)) = ns.map fun s=>s.data.toList:=by
   rw [show (ss.mergeSort fun x y=>decide (x ≤ y)) = _ from mergeSort_of_perm (hs.trans hp.symm)]
   exact List.mergeSort_of_pairwise (znv hr)
 have e4:(ns.map fun s=>s.data.toList).map encStr = txC ns:=by
   rw [List.map_map]
   unfold txC
   refine List.map_congr_left fun s _=>?_
   simp [encStr]
 unfold OwnT
 rw [e2,e3,e4] at hrow
 exact hrow
theorem zx1 (mb:Option Nat) (W:World) (B:Nat) (hB:W.heap.size = B):Calls Tryz.prog 129 #[.map mb] W fun e w'=>e = .returned (.func (.func 164) #[] #[.pointer (some ⟨B,0,none⟩)]) ∧ w' = W.alloc (.cells #[.map mb] 145):=by
 subst hB
 exact zpk mb W
theorem zvw {w:World} {b nn:Nat} {ids:List ByteArray} {raw:ByteArray → Nat → Int} (h:Cnt w b nn ids raw) (ns:List ByteArray) (hr:Rise ns) (hm:∀ s:ByteArray,s ∈ ids ↔ s ∈ ns) (hlen:ns.length ≤ 10000) (B:Nat) (hB:w.heap.size = B) :
   Calls Tryz.prog 128 #[.func (.func 164) #[] #[.pointer (some ⟨B,0,none⟩)]] (w.alloc (.cells #[.map (some b)] 145)) fun e w'=>∃ (v:Value),e = .returned v ∧
     OwnT w' (B + 1) ns v ∧ Below (B + 1) (w.alloc (.cells #[.map (some b)] 145)) w':=by
 subst hB
 obtain ⟨D,ho,_,hh⟩:=h
 exact zm3 b nn D zpi w ho ns hr (fun s=>(hh s).trans (hm s)) hlen
end Go.Proofs.YthnllikalobmeaaGreat
namespace Go.Proofs.YthnllikalobmeaaGreat
set_option linter.unusedVariables false
set_option linter.unusedSimpArgs false
set_option maxRecDepth 100000
set_option maxHeartbeats 8000000
open Go.RowKit
def posI (l:List Itm) (id:ByteArray):Nat:=l.countP fun i=>lsB i.id id
def hitI (l:List Itm) (id:ByteArray):Bool:=match l[posI l id]? with
 | some i=>i.id.toList == id.toList
 | none=>false
def toI (l:List Itm) (id:ByteArray):Nat:=if hitI l id = true then posI l id + 1 else posI l id
theorem zfl (l:List Itm) (id:ByteArray):posI l id ≤ l.length:=List.countP_le_length
theorem zmx {l:List Itm} {id:ByteArray} (h:∀ i ∈ l,lsB i.id id = false):posI l id = 0:=by
 unfold posI
 rw [List.countP_eq_zero]
 intro i hi;rw [h i hi];simp
theorem zf4 {a:Itm} {l:List Itm} {id:ByteArray} (h:zak (a :: l)):posI (a :: l) id = if lsB a.id id = true then posI l id + 1 else 0:=by
 split
 · rename_i h1;unfold posI;rw [List.countP_cons_of_pos (p:=fun i:Itm=>lsB i.id id) h1]
 · rename_i h1
   refine zmx fun i hi=>?_
   rw [riseI_cons] at h
   rcases List.mem_cons.1 hi with e | hi
   · subst e;simpa using h1
   · cases h2:lsB i.id id with
     | false=>rfl
     | true=>exact absurd (zba (h.1 i hi) h2) h1
theorem zj3 {l:List Itm} {id:ByteArray} (h:zak l):∀ {j:Nat} {i:Itm},l[j]? = some i → lsB i.id id = decide (j < posI l id):=by
 induction l with
 | nil=>intro j i hj;simp at hj
 | cons a l ih =>
   intro j i hj
   rw [zf4 h]
   have h':=riseI_cons.1 h
   cases j with
   | zero =>
     simp at hj;subst hj
     cases e:lsB a.id id <;> simp
   | succ j =>
     simp at hj
     rw [ih h'.2 hj]
     cases e:lsB a.id id with
     | true=>simp
     | false =>
       have:posI l id = 0:=by
         refine zmx fun i hi=>?_
         cases h2:lsB i.id id with
         | false=>rfl
         | true=>rw [zba (h'.1 i hi) h2] at e;cases e
       rw [this];simp
theorem zm5 {l:List Itm} {id:ByteArray} (h:zak l):l.take (posI l id) = l.filter fun i=>lsB i.id id:=by
 induction l with
 | nil=>rfl
 | cons a l ih =>
   have h':=riseI_cons.1 h
   rw [zf4 h]
   cases e:lsB a.id id with
   | true=>simp [e,ih h'.2]
   | false =>
     have:(a :: l).filter (fun i=>lsB i.id id) = []:=by
       rw [List.filter_eq_nil_iff]
       intro i hi h2
       rcases List.mem_cons.1 hi with q | hi
       · subst q;rw [e] at h2;cases h2
       · rw [zba (h'.1 i hi) h2] at e;cases e
     rw [this];simp
theorem zs7 {a:Itm} {l:List Itm} {id:ByteArray} (h:zak (a :: l)):hitI (a :: l) id = if lsB a.id id = true then hitI l id else (a.id.toList == id.toList):=by
 unfold hitI
 rw [zf4 h]
 cases e:lsB a.id id with
 | true=>simp only [if_true,List.getElem?_cons_succ]
 | false=>simp only [Bool.false_eq_true,if_false,List.getElem?_cons_zero]
theorem zn9 {l:List Itm} {id:ByteArray} (h:zak l):l.drop (toI l id) = l.filter fun i=>gtB i.id id:=by
 induction l with
 | nil=>simp [toI]
 | cons a l ih =>
   have h':=riseI_cons.1 h
   have ih:=ih h'.2
   unfold toI at *
   rw [zs7 h,zf4 h]
   cases e:lsB a.id id with
   | true =>
     simp only [if_true]
     have e2:gtB a.id id = false:=by rw [zdv];exact zc9 e
     rw [List.filter_cons_of_neg (by simp [e2]),← ih]
     split <;> rfl
   | false =>
     have hall:∀ i ∈ l,gtB i.id id = true:=fun i hi=>by
       rw [zdv]
       rcases zcx a.id id with h1 | h1 | h1
       · rw [h1] at e;cases e
       · rw [← h1];exact h'.1 i hi
       · exact zba h1 (h'.1 i hi)
     simp only [if_false,Bool.false_eq_true]
     cases e2:(a.id.toList == id.toList) with
     | true =>
       have e3:gtB a.id id = false:=by rw [zdv,tl_eq.1 e2];exact za4 _
       rw [List.filter_cons_of_neg (by simp [e3])]
       simp only [if_true,Nat.zero_add,List.drop_succ_cons,List.drop_zero]
       rw [List.filter_eq_self.2 hall]
     | false =>
       have e3:gtB a.id id = true:=by
         rw [zdv]
         rcases zcx a.id id with h1 | h1 | h1
         · rw [h1] at e;cases e
         · exact absurd h1 (tl_ne.1 e2)
         · exact h1
       rw [List.filter_cons_of_pos (by simp [e3]),List.filter_eq_self.2 hall]
       simp
theorem zrv {l:List Itm} {x:Itm} (h:zak l):l.take (posI l x.id) ++ ([x] ++ l.drop (toI l x.id)) = putI l x:=by
 unfold putI
 rw [zm5 h,zn9 h,List.append_assoc]
theorem zpb {l:List Itm} {id:ByteArray} (h:zak l):l.take (posI l id) ++ l.drop (toI l id) = l.filter (neB id):=by
 rw [zm5 h,zn9 h]
 induction l with
 | nil=>rfl
 | cons a l ih =>
   have h':=riseI_cons.1 h
   have ih:=ih h'.2
   rcases zcx a.id id with h1 | h1 | h1
   · have e2:gtB a.id id = false:=by rw [zdv];exact zc9 h1
     have e3:neB id a = true:=by unfold neB;rw [Bool.not_eq_true',tl_ne];exact zez h1
     rw [List.filter_cons_of_pos (by simp [h1]),List.filter_cons_of_neg (by simp [e2]),List.filter_cons_of_pos (by simp [e3]),List.cons_append,ih]
   · have e1:lsB a.id id = false:=by rw [h1];exact za4 _
     have e2:gtB a.id id = false:=by rw [zdv,h1];exact za4 _
     have e3:neB id a = false:=by unfold neB;rw [Bool.not_eq_false',tl_eq];exact h1
     rw [List.filter_cons_of_neg (by simp [e1]),List.filter_cons_of_neg (by simp [e2]),List.filter_cons_of_neg (by simp [e3]),ih]
   · have e1:lsB a.id id = false:=zc9 h1
     have e2:gtB a.id id = true:=by rw [zdv];exact h1
     have e3:neB id a = true:=by unfold neB;rw [Bool.not_eq_true',tl_ne];exact fun q=>zez h1 q.symm
     have hn:l.filter (fun i=>lsB i.id id) = []:=by
       rw [List.filter_eq_nil_iff]
       intro i hi h2
       rw [zc9 (zba h1 (h'.1 i hi))] at h2;cases h2
     rw [hn] at ih
     rw [List.filter_cons_of_neg (by simp [e1]),List.filter_cons_of_pos (by simp [e2]),List.filter_cons_of_pos (by simp [e3]),hn,List.nil_append,← ih,List.nil_append]
theorem zs4 {l:List Itm} {id:ByteArray} (h:zak l) (hh:hitI l id = true):∃ i,l[posI l id]? = some i ∧ getI l id = (i,true):=by
 unfold hitI at hh
 cases e:l[posI l id]? with
 | none=>rw [e] at hh;cases hh
 | some i =>
   rw [e] at hh
   exact ⟨i,rfl,zej h (List.mem_of_getElem? e) (tl_eq.1 hh)⟩
theorem zqy {l:List Itm} {id:ByteArray} (h:zak l) (hh:hitI l id = false):getI l id = (Itm.zero,false):=by
 refine zci fun i hi e=>?_
 obtain ⟨j,hj,e'⟩:=List.mem_iff_getElem.1 hi
 have hj9:l[j]? = some i:=by rw [List.getElem?_eq_getElem hj,e']
 have h1:=zj3 (id:=id) h hj9
 rw [e,za4] at h1
 have hge:posI l id ≤ j:=by
   have:=of_decide_eq_false h1.symm;omega
 by_cases hq:posI l id = j
 · unfold hitI at hh;rw [hq,hj9] at hh
   have hh':(i.id.toList == id.toList) = false:=hh
   rw [tl_eq.2 e] at hh';cases hh'
 · obtain ⟨p,hp⟩:∃ p,l[posI l id]? = some p:=⟨_,List.getElem?_eq_getElem (by omega)⟩
   have h2:=zj3 (id:=id) h hp
   rw [decide_eq_false (by omega)] at h2
   have h3:lsB p.id i.id = true:=by
     have hpw:=h
     unfold zak Rise at hpw
     rw [List.pairwise_map] at hpw
     have hp':=(List.getElem?_eq_some_iff.1 hp)
     have:=List.pairwise_iff_getElem.1 hpw (posI l id) j hp'.1 hj (by omega)
     rw [hp'.2,e'] at this
     exact this
   rw [e,h2] at h3;cases h3
def mrgI (f:Itm → Itm → Bool):List Itm → List Itm → List Itm
 | [],m=>m
 | l,[]=>l
 | x :: l,y :: m=>if lsB x.id y.id = true then x :: mrgI f l (y :: m) else if lsB y.id x.id = true then y :: mrgI f (x :: l) m else (if f y x = true then y else x) :: mrgI f l m
 termination_by l m=>l.length + m.length
theorem zck (f:Itm → Itm → Bool) (m:List Itm):mrgI f [] m = m:=by rw [mrgI]
theorem ze2 (f:Itm → Itm → Bool) (l:List Itm):mrgI f l [] = l:=by cases l <;> rw [mrgI];simp
theorem zdr (f:Itm → Itm → Bool) (x y:Itm) (l m:List Itm):mrgI f (x :: l) (y :: m) = if lsB x.id y.id = true then x :: mrgI f l (y :: m) else if lsB y.id x.id = true then y :: mrgI f (x :: l) m else (if f y x = true then y else x) :: mrgI f l m:=by rw [mrgI]
theorem zgz {l m:List Itm} (hl:zak l) (hm:zak m) (h:∀ i,i ∈ l ↔ i ∈ m):l = m:=by
 induction l generalizing m with
 | nil =>
   cases m with
   | nil=>rfl
   | cons b m=>have:=(h b).2 (by simp);simp at this
 | cons a l ih =>
   cases m with
   | nil=>have:=(h a).1 (by simp);simp at this
   | cons b m =>
     rw [riseI_cons] at hl hm
     have e:a = b:=by
       rcases List.mem_cons.1 ((h a).1 (by simp)) with e | ha
       · exact e
       rcases List.mem_cons.1 ((h b).2 (by simp)) with e | hb
       · exact e.symm
       have:=zba (hl.1 b hb) (hm.1 a ha)
       rw [za4] at this;cases this
     subst e
     congr 1
     refine ih hl.2 hm.2 fun i=>⟨fun hi=>?_,fun hi=>?_⟩
     · rcases List.mem_cons.1 ((h i).1 (by simp [hi])) with e | h'
       · subst e;have:=hl.1 i hi;rw [za4] at this;cases this
       · exact h'
     · rcases List.mem_cons.1 ((h i).2 (by simp [hi])) with e | h'
       · subst e;have:=hm.1 i hi;rw [za4] at this;cases this
       · exact h'
theorem zfh {l:List Itm} {i:Itm} (h:zak l):i ∈ l ↔ getI l i.id = (i,true):=by
 constructor
 · intro hi;exact zej h hi rfl
 · intro hg
   rcases zbt l i.id with ⟨j,hj,_,e⟩ | ⟨_,e⟩
   · rw [e] at hg;cases hg;exact hj
   · rw [e] at hg;exact absurd (congrArg Prod.snd hg) (by simp)
theorem zr1 {l m:List Itm} (hl:zak l) (hm:zak m) (h:∀ id,getI l id = getI m id):l = m :=
 zgz hl hm fun i=>by rw [zfh hl,zfh hm,h]
theorem zch (a:Itm) (l:List Itm) (id:ByteArray):getI (a :: l) id = if a.id = id then (a,true) else getI l id:=by
 unfold getI
 rw [List.find?_cons]
 cases h:(a.id.toList == id.toList) with
 | true=>rw [if_pos (tl_eq.1 h)]
 | false=>rw [if_neg (tl_ne.1 h)]
theorem zhd {f:Itm → Itm → Bool}:∀ {n:Nat} {l m:List Itm} {i:Itm},l.length + m.length ≤ n → i ∈ mrgI f l m → i ∈ l ∨ i ∈ m:=by
 intro n
 induction n with
 | zero =>
   intro l m i hn hi
   have:l = []:=List.length_eq_zero_iff.1 (by omega)
   subst this;rw [zck] at hi;exact .inr hi
 | succ n ih =>
   intro l m i hn hi
   cases l with
   | nil=>rw [zck] at hi;exact .inr hi
   | cons x l =>
     cases m with
     | nil=>rw [ze2] at hi;exact .inl hi
     | cons y m =>
       simp only [List.length_cons] at hn
       rw [zdr] at hi
       split at hi
       · rcases List.mem_cons.1 hi with e | hi
         · subst e;exact .inl (by simp)
         · rcases ih (by simp only [List.length_cons];omega) hi with h | h
           · exact .inl (by simp [h])
           · exact .inr h
       · split at hi
         · rcases List.mem_cons.1 hi with e | hi
           · subst e;exact .inr (by simp)
           · rcases ih (by simp only [List.length_cons];omega) hi with h | h
             · exact .inl h
             · exact .inr (by simp [h])
         · rcases List.mem_cons.1 hi with e | hi
           · subst e;split
             · exact .inr (by simp)
             · exact .inl (by simp)
           · rcases ih (by omega) hi with h | h
             · exact .inl (by simp [h])
             · exact .inr (by simp [h])
theorem ztl {f:Itm → Itm → Bool}:∀ {n:Nat} {l m:List Itm},l.length + m.length ≤ n → zak l → zak m → zak (mrgI f l m):=by
 intro n
 induction n with
 | zero =>
   intro l m hn hl hm
   have:l = []:=List.length_eq_zero_iff.1 (by omega)
   subst this;rw [zck];exact hm
 | succ n ih =>
   intro l m hn hl hm
   cases l with
   | nil=>rw [zck];exact hm
   | cons x l =>
     cases m with
     | nil=>rw [ze2];exact hl
     | cons y m =>
       simp only [List.length_cons] at hn
       have hl':=riseI_cons.1 hl
       have hm':=riseI_cons.1 hm
       rw [zdr]
       split
       · rename_i h1
         refine riseI_cons.2 ⟨fun i hi=>?_,ih (by simp only [List.length_cons];omega) hl'.2 hm⟩
         rcases zhd (Nat.le_refl _) hi with h | h
         · exact hl'.1 i h
         · rcases List.mem_cons.1 h with e | h
           · subst e;exact h1
           · exact zba h1 (hm'.1 i h)
       · rename_i h1
         split
         · rename_i h2
           refine riseI_cons.2 ⟨fun i hi=>?_,ih (by simp only [List.length_cons];omega) hl hm'.2⟩
           rcases zhd (Nat.le_refl _) hi with h | h
           · rcases List.mem_cons.1 h with e | h
             · subst e;exact h2
             · exact zba h2 (hl'.1 i h)
           · exact hm'.1 i h
         · rename_i h2
           have e:x.id = y.id:=by
             rcases zcx x.id y.id with q | q | q
             · exact absurd q h1
             · exact q
             · exact absurd q h2
           refine riseI_cons.2 ⟨fun i hi=>?_,ih (by omega) hl'.2 hm'.2⟩
           have e2:(if f y x = true then y else x).id = x.id:=by split;exact e.symm;rfl
           rw [e2]
           rcases zhd (Nat.le_refl _) hi with h | h
           · exact hl'.1 i h
           · rw [e];exact hm'.1 i h
theorem zki {x:Itm} {l:List Itm} {id:ByteArray} (h:∀ i ∈ l,lsB x.id i.id = true) (hid:id = x.id ∨ lsB id x.id = true):getI l id = (Itm.zero,false):=by
 refine zci fun i hi e=>?_
 have:=h i hi
 rw [e] at this
 rcases hid with q | q
 · rw [q,za4] at this;cases this
 · have:=zba q this;rw [za4] at this;cases this
theorem zvh {f:Itm → Itm → Bool}:∀ {n:Nat} {l m:List Itm} (id:ByteArray),l.length + m.length ≤ n → zak l → zak m → getI (mrgI f l m) id = if (getI m id).2 = true then (if (!(getI l id).2 || f (getI m id).1 (getI l id).1) = true then ((getI m id).1,true) else getI l id) else getI l id:=by
 intro n
 have nl:∀ m:List Itm,∀ id:ByteArray,getI m id = if (getI m id).2 = true then (if (!(getI [] id).2 || f (getI m id).1 (getI [] id).1) = true then ((getI m id).1,true) else getI [] id) else getI [] id:=by
   intro m id
   rw [show getI [] id = (Itm.zero,false) from rfl]
   rcases zbt m id with ⟨j,_,_,e⟩ | ⟨_,e⟩
   · rw [e];simp
   · rw [e];simp
 induction n with
 | zero =>
   intro l m id hn hl hm
   have:l = []:=List.length_eq_zero_iff.1 (by omega)
   subst this;rw [zck];exact nl m id
 | succ n ih =>
   intro l m id hn hl hm
   cases l with
   | nil=>rw [zck];exact nl m id
   | cons x l =>
     cases m with
     | nil=>rw [ze2,show getI [] id = (Itm.zero,false) from rfl];simp
     | cons y m =>
       simp only [List.length_cons] at hn
       have hl':=riseI_cons.1 hl
       have hm':=riseI_cons.1 hm
       rw [zdr]
       split
       · rename_i h1
         rw [zch,ih id (by simp only [List.length_cons];omega) hl'.2 hm,zch x l id]
         by_cases e:x.id = id
         · rw [if_pos e,if_pos e]
           have:getI (y :: m) id = (Itm.zero,false):=zki (x:=x) (fun i hi=>by
             rcases List.mem_cons.1 hi with q | hi
             · rw [q];exact h1
             · exact zba h1 (hm'.1 i hi)) (.inl e.symm)
           rw [this];simp
         · rw [if_neg e,if_neg e]
       · rename_i h1
         split
         · rename_i h2
           rw [zch,ih id (by simp only [List.length_cons];omega) hl hm'.2,zch y m id]
           by_cases e:y.id = id
           · rw [if_pos e,if_pos e]
             have:getI (x :: l) id = (Itm.zero,false):=zki (x:=y) (fun i hi=>by
               rcases List.mem_cons.1 hi with q | hi
               · rw [q];exact h2
               · exact zba h2 (hl'.1 i hi)) (.inl e.symm)
             rw [this];simp
           · rw [if_neg e,if_neg e]
         · rename_i h2
           have e:x.id = y.id:=by
             rcases zcx x.id y.id with q | q | q
             · exact absurd q h1
             · exact q
             · exact absurd q h2
           rw [zch,ih id (by omega) hl'.2 hm'.2,zch x l id,zch y m id]
           have e2:(if f y x = true then y else x).id = x.id:=by split;exact e.symm;rfl
           rw [e2]
           by_cases q:x.id = id
           · rw [if_pos q,if_pos q,if_pos (e.symm.trans q)]
             cases hf:f y x <;> simp [hf]
           · rw [if_neg q,if_neg q,if_neg (fun h=>q (e.trans h))]
theorem ztk {f:Itm → Itm → Bool} {l m:List Itm} (hl:zak l) (hm:zak m):mrgI f l m = zao f l m :=
 zr1 (ztl (Nat.le_refl _) hl hm) (zdz m hl) fun id=>by rw [zvh id (Nat.le_refl _) hl hm,zmc m id hl hm]
def zq5 (K:Kn):Bool:=decide (K.l.length ≤ 30) && K.l.all fun f=>decide (f.ids.length ≤ 60)
def zcv (K:Kn):Int:=if zq5 K = true then 1 else 0
def zxl (l:List Fr) (len:Nat) (X:Array Value) (w:World) (iv:Value) (wr:World):Prop :=
 ∃ k:Nat,k ≤ len ∧ iv = .int .i64 k ∧ Hid (∀ j f,j < k → l[j]? = some f → f.ids.length ≤ 60) ∧ wr = (w.alloc (.cells X 31))
theorem znp (K:Kn) (v:Value) (w:World) (hR:FrW w K.l v) :
   Calls Tryz.prog 32 #[knV K.star v] w fun e w'=>e = .returned (.int .i64 (zcv K)) ∧ Below w.heap.size w w':=by
 obtain ⟨A,l⟩:=K
 simp only at hR ⊢
 obtain ⟨U,oa,cap,b0,o,rfl,hr⟩:=hR
 have HR:=y20h hr
 have hcap:=hr.len
 have hmax:=hr.max
 unfold maxLen at hmax
 clear hr
 have HE:=y20h (show zcv ⟨A,l⟩ = if (decide (l.length ≤ 30) && l.all fun f=>decide (f.ids.length ≤ 60)) = true then 1 else 0 from rfl)
 generalize zcv ⟨A,l⟩ = res at *
 generalize hn:l.length = len at *
 have HN:=y20h hn
 clear hn
 have OA:=y20h (Has.new w (knA A (.slice oa len cap)) 31)
 have BE:=y20h ((Below.refl w.heap.size w).alloc (Nat.le_refl _) (.cells (knA A (.slice oa len cap)) 31))
 by_cases h30:30 < len
 · have E:=y20h (show res = 0 by rw [HE.out,if_neg (by simp;omega)])
   go_enter Tryz.func32,Tryz.ntmps32
   go_wp2_with fail
   go_ret
   exact ⟨zbu E.out.symm,BE.out⟩
 go_enter Tryz.func32,Tryz.ntmps32
 go_wp2_with fail
 go_loopw [3] (fun iv wr=>zxl l len (knA A (.slice oa len cap)) w iv wr) (fun iv _=>len - (intOf iv).toNat)
 case atStart=>exact ⟨0,Nat.zero_le _,rfl,fun j f hj=>absurd hj (by omega),rfl⟩
 case round =>
   obtain ⟨k,hk,rfl,HA,rfl⟩:=hrel
   have l1:=OA.out.cell
   have z1:=OA.out.lt
   by_cases hlt:k < len
   · obtain ⟨f,hf⟩:∃ f,l[k]? = some f:=⟨_,List.getElem?_eq_getElem (by rw [HN.out];exact hlt)⟩
     obtain ⟨rfl,hb0⟩:=HR.out.at0 (by rw [HN.out];omega)
     obtain ⟨c0,_⟩:=zbm (w:=w) (fun j z hz=>HR.out.cell k f hf j z hz)
     obtain ⟨ou,cu,hu⟩:=(HR.out.ids k f hf).val
     rw [hu] at c0
     have HF:=y20h hf
     clear hf hu
     generalize hnf:f.ids.length = nf at *
     have HNF:=y20h hnf
     clear hnf
     by_cases h60:60 < nf
     · have E:=y20h (show res = 0 by
         rw [HE.out,if_neg]
         rw [Bool.and_eq_true,List.all_eq_true]
         rintro ⟨_,h⟩
         have:=h f (List.mem_of_getElem? HF.out)
         rw [decide_eq_true_eq,HNF.out] at this
         omega)
       go_wp2_with fail
       go_ret
       exact ⟨zbu E.out.symm,BE.out⟩
     · have HA2:=y20h (show ∀ j g,j < k + 1 → l[j]? = some g → g.ids.length ≤ 60 from fun j g hj hg=>by
         by_cases e:j = k
         · subst e;rw [HF.out] at hg;cases hg;rw [HNF.out];omega
         · exact HA.out j g (by omega) hg)
       go_wp2_with fail
       go_roundw
       case rel=>exact ⟨k + 1,by omega,by go_num,HA2,by first | rfl | trivial⟩
       case measure=>simp [intOf];omega
   · have e:len = k:=by omega
     subst e
     have E:=y20h (show res = 1 by
       rw [HE.out,if_pos]
       rw [Bool.and_eq_true,List.all_eq_true]
       refine ⟨by simp;omega,fun f hf=>?_⟩
       obtain ⟨j,hj,e⟩:=List.mem_iff_getElem.1 hf
       rw [decide_eq_true_eq]
       exact HA.out j f (by have:=HN.out;omega) (by rw [List.getElem?_eq_getElem hj,e]))
     go_wp2_with fail
     go_ret
     exact ⟨zbu E.out.symm,BE.out⟩
end Go.Proofs.YthnllikalobmeaaGreat
