/- Joined: Keys, KGreat, KBey, KPlain. -/
import Derived.Shelf.SlIter.Nil
import Derived.Shelf.SortM.Plain
import Derived.Shelf.SortM.SortNone
import Derived.Test.YthnllikalobmeaaGreatJ09
import Derived.Test.YthnllikalobmeaaGreatJ33
import Derived.Test.YthnllikalobmeaaGreatJ03
import Derived.Test.YthnllikalobmeaaGreatJ10
import Derived.Test.YthnllikalobmeaaGreatJ02
namespace Go.Proofs.YthnllikalobmeaaGreat
set_option linter.unusedVariables false
set_option linter.unusedSimpArgs false
set_option maxRecDepth 100000
set_option maxHeartbeats 8000000
open Go.RowKit Go.Maps Go.Sort Go.Shelf
theorem y34h {p:Prop} (h:p):Hid p:=Lib.hid h
def zml:Go.Shelf.Ren:=⟨fun | 7=>129 | 10=>164 | n=>n,
 fun | 23=>145 | 26=>9 | 3=>28 | 28=>150 | 0=>0 | 27=>149 | 33=>122 | 4=>4 | n=>n,
 fun | n=>n⟩
theorem zyg:Go.Proofs.SlLaysZ.n7 Tryz.prog zml:={
 mixed:=by kernel_rfl,
 f7:=⟨Tryz.f129.name,by decide,Tryz.func129.trans (congrArg some (by kernel_rfl))⟩,
 f10:=⟨Tryz.f164.name,by decide,Tryz.func164.trans (congrArg some (by kernel_rfl))⟩,
 t0:=Tryz.underlying0,
 a0:=Tryz.isAgg0,
 z0:=Tryz.sizeOf0,
 v0:=Tryz.zeroValue0,
 t4:=Tryz.underlying4,
 a4:=Tryz.isAgg4,
 z4:=Tryz.sizeOf4,
 v4:=Tryz.zeroValue4,
 t23:=Tryz.underlying145,
 a23:=Tryz.isAgg145,
 z23:=Tryz.sizeOf145,
 v23:=Tryz.zeroValue145,
 t26:=Tryz.underlying9,
 a26:=Tryz.isAgg9,
 z26:=Tryz.sizeOf9,
 v26:=Tryz.zeroValue9,
 t27:=Tryz.underlying149,
 a27:=Tryz.isAgg149,
 z27:=Tryz.sizeOf149,
 v27:=Tryz.zeroValue149,
 t28:=Tryz.underlying150,
 a28:=Tryz.isAgg150,
 z28:=Tryz.sizeOf150,
 v28:=Tryz.zeroValue150,
 t33:=Tryz.underlying122,
 a33:=Tryz.isAgg122,
 z33:=Tryz.sizeOf122,
 v33:=Tryz.zeroValue122 }
def zjf:Go.Shelf.Ren:=⟨fun | 6=>128 | 8=>162 | 9=>163 | 11=>174 | 13=>176 | 12=>175 | 23=>188 | 24=>189 | 14=>179 | 15=>180 | 16=>181 | 17=>182 | 18=>183 | 19=>184 | 20=>185 | 21=>186 | 22=>187 | 25=>192 | 26=>193 | 27=>194 | 28=>195 | 29=>196 | 30=>168 | 31=>201 | n=>n,
 fun | 26=>9 | 28=>150 | 24=>103 | 0=>0 | 3=>3 | 37=>176 | 48=>190 | 50=>192 | 4=>4 | 40=>184 | 39=>183 | 45=>116 | 5=>5 | 9=>9 | 51=>193 | 55=>197 | 57=>202 | 58=>139 | 33=>122 | n=>n,
 fun | n=>n⟩
theorem zzr:Go.Proofs.SlLaysZ.n6 Tryz.prog zjf:={
 mixed:=by kernel_rfl,
 f6:=⟨Tryz.f128.name,by decide,Tryz.func128.trans (congrArg some (by kernel_rfl))⟩,
 f8:=⟨Tryz.f162.name,by decide,Tryz.func162.trans (congrArg some (by kernel_rfl))⟩,
 f11:=⟨Tryz.f174.name,by decide,Tryz.func174.trans (congrArg some (by kernel_rfl))⟩,
 t0:=Tryz.underlying0,
 a0:=Tryz.isAgg0,
 z0:=Tryz.sizeOf0,
 v0:=Tryz.zeroValue0,
 t24:=Tryz.underlying103,
 a24:=Tryz.isAgg103,
 z24:=Tryz.sizeOf103,
 v24:=Tryz.zeroValue103,
 t26:=Tryz.underlying9,
 a26:=Tryz.isAgg9,
 z26:=Tryz.sizeOf9,
 v26:=Tryz.zeroValue9,
 t28:=Tryz.underlying150,
 a28:=Tryz.isAgg150,
 z28:=Tryz.sizeOf150,
 v28:=Tryz.zeroValue150,
 i26:=by kernel_rfl }
def zvn:Go.Shelf.Ren:=⟨fun | 6=>163 | 8=>176 | 9=>175 | 19=>188 | 20=>189 | 21=>179 | 22=>180 | 23=>181 | 24=>182 | 25=>183 | 26=>184 | 27=>185 | 28=>186 | 29=>187 | 36=>192 | 31=>193 | 32=>194 | 37=>195 | 38=>196 | 39=>168 | 41=>201 | n=>n,
 fun | 27=>103 | 29=>9 | 3=>3 | 32=>176 | 26=>103 | 0=>0 | 44=>190 | 46=>192 | 4=>4 | 36=>184 | 35=>183 | 41=>116 | 5=>5 | 9=>9 | 53=>193 | 57=>197 | 63=>202 | 64=>139 | n=>n,
 fun | n=>n⟩
theorem zyi:Go.Proofs.SlLaysM.n6 Tryz.prog zvn:={
 mixed:=by kernel_rfl,
 f6:=⟨Tryz.f163.name,by decide,Tryz.func163.trans (congrArg some (by kernel_rfl))⟩,
 f8:=Tryz.func176.trans (congrArg some (by kernel_rfl)),
 f9:=⟨Tryz.f175.name,by decide,Tryz.func175.trans (congrArg some (by kernel_rfl))⟩,
 f19:=Tryz.func188.trans (congrArg some (by kernel_rfl)),
 f20:=Tryz.func189.trans (congrArg some (by kernel_rfl)),
 f21:=⟨Tryz.f179.name,by decide,Tryz.func179.trans (congrArg some (by kernel_rfl))⟩,
 f22:=⟨Tryz.f180.name,by decide,Tryz.func180.trans (congrArg some (by kernel_rfl))⟩,
 f23:=⟨Tryz.f181.name,by decide,Tryz.func181.trans (congrArg some (by kernel_rfl))⟩,
 f24:=⟨Tryz.f182.name,by decide,Tryz.func182.trans (congrArg some (by kernel_rfl))⟩,
 f25:=⟨Tryz.f183.name,by decide,Tryz.func183.trans (congrArg some (by kernel_rfl))⟩,
 f26:=⟨Tryz.f184.name,by decide,Tryz.func184.trans (congrArg some (by kernel_rfl))⟩,
 f27:=⟨Tryz.f185.name,by decide,Tryz.func185.trans (congrArg some (by kernel_rfl))⟩,
 f28:=⟨Tryz.f186.name,by decide,Tryz.func186.trans (congrArg some (by kernel_rfl))⟩,
 f29:=⟨Tryz.f187.name,by decide,Tryz.func187.trans (congrArg some (by kernel_rfl))⟩,
 f31:=Tryz.func193.trans (congrArg some (by kernel_rfl)),
 f32:=Tryz.func194.trans (congrArg some (by kernel_rfl)),
 f36:=⟨Tryz.f192.name,by decide,Tryz.func192.trans (congrArg some (by kernel_rfl))⟩,
 f37:=⟨Tryz.f195.name,by decide,Tryz.func195.trans (congrArg some (by kernel_rfl))⟩,
 f38:=⟨Tryz.f196.name,by decide,Tryz.func196.trans (congrArg some (by kernel_rfl))⟩,
 f39:=⟨Tryz.f168.name,by decide,Tryz.func168.trans (congrArg some (by kernel_rfl))⟩,
 f41:=⟨Tryz.f201.name,by decide,Tryz.func201.trans (congrArg some (by kernel_rfl))⟩,
 t0:=Tryz.underlying0,
 a0:=Tryz.isAgg0,
 z0:=Tryz.sizeOf0,
 v0:=Tryz.zeroValue0,
 t3:=Tryz.underlying3,
 a3:=Tryz.isAgg3,
 z3:=Tryz.sizeOf3,
 v3:=Tryz.zeroValue3,
 t4:=Tryz.underlying4,
 a4:=Tryz.isAgg4,
 z4:=Tryz.sizeOf4,
 v4:=Tryz.zeroValue4,
 t5:=Tryz.underlying5,
 a5:=Tryz.isAgg5,
 z5:=Tryz.sizeOf5,
 v5:=Tryz.zeroValue5,
 t9:=Tryz.underlying9,
 a9:=Tryz.isAgg9,
 z9:=Tryz.sizeOf9,
 v9:=Tryz.zeroValue9,
 t26:=Tryz.underlying103,
 a26:=Tryz.isAgg103,
 z26:=Tryz.sizeOf103,
 v26:=Tryz.zeroValue103,
 t27:=Tryz.underlying103,
 a27:=Tryz.isAgg103,
 z27:=Tryz.sizeOf103,
 v27:=Tryz.zeroValue103,
 t29:=Tryz.underlying9,
 a29:=Tryz.isAgg9,
 z29:=Tryz.sizeOf9,
 v29:=Tryz.zeroValue9,
 t32:=Tryz.underlying176,
 a32:=Tryz.isAgg176,
 z32:=Tryz.sizeOf176,
 v32:=Tryz.zeroValue176,
 t35:=Tryz.underlying183,
 a35:=Tryz.isAgg183,
 z35:=Tryz.sizeOf183,
 v35:=Tryz.zeroValue183,
 t36:=Tryz.underlying184,
 a36:=Tryz.isAgg184,
 z36:=Tryz.sizeOf184,
 v36:=Tryz.zeroValue184,
 t41:=Tryz.underlying116,
 a41:=Tryz.isAgg116,
 z41:=Tryz.sizeOf116,
 v41:=Tryz.zeroValue116,
 t44:=Tryz.underlying190,
 a44:=Tryz.isAgg190,
 z44:=Tryz.sizeOf190,
 v44:=Tryz.zeroValue190,
 t46:=Tryz.underlying192,
 a46:=Tryz.isAgg192,
 z46:=Tryz.sizeOf192,
 v46:=Tryz.zeroValue192,
 t53:=Tryz.underlying193,
 a53:=Tryz.isAgg193,
 z53:=Tryz.sizeOf193,
 v53:=Tryz.zeroValue193,
 t57:=Tryz.underlying197,
 a57:=Tryz.isAgg197,
 z57:=Tryz.sizeOf197,
 v57:=Tryz.zeroValue197,
 t63:=Tryz.underlying202,
 a63:=Tryz.isAgg202,
 z63:=Tryz.sizeOf202,
 v63:=Tryz.zeroValue202,
 t64:=Tryz.underlying139,
 a64:=Tryz.isAgg139,
 z64:=Tryz.sizeOf139,
 v64:=Tryz.zeroValue139 }
theorem z08 (m:Nat):AnyZ.SortsIn Tryz.prog zjf Fence.wide m :=
 ⟨fun blk off cap ss W hH hblk hsz=>callsIn_wide.2 (AnyM.slices_Sort_string zyi blk off cap ss W hH hblk hsz),
  fun p cap W=>callsIn_wide.2 (AnyM.slices_Sort_string_none zyi p cap W)⟩
theorem zsj (mb:Option Nat) (W:World):Calls Tryz.prog 129 #[.map mb] W fun e w'=>e = .returned (.func (.func 164) #[] #[.pointer (some ⟨W.heap.size,0,none⟩)]) ∧ w' = W.alloc (.cells #[.map mb] 145) :=
 callsIn_wide.1 (AnyZ.keys_in zyg Fence.wide 5 trivial rfl mb W)
theorem zs9 {H:Type} (b nn:Nat) (D0:DataW H) (R:Value → Option (DataW H × List MemPlace)) (w:World) (hown:w.ownsMap Tryz.prog 9 R b nn D0) (hmax:Maps.size D0 ≤ maxLen) (hbytes:Maps.size D0 * 16 ≤ 140737488355328) :
   Calls Tryz.prog 128 #[.func (.func 164) #[] #[.pointer (some ⟨w.heap.size,0,none⟩)]] (w.alloc (.cells #[.map (some b)] 145)) fun e w'=>∃ (v:Value) (ss:List (List UInt8)),e = .returned v ∧ ss.Perm (strKeys D0) ∧
     w'.ownsRow (w.alloc (.cells #[.map (some b)] 145)).heap.size 9 1 v ss.length ((ss.mergeSort (fun x y=>decide (x ≤ y))).map encStr) ∧ (v = .slice none 0 0 ↔ ss = []) ∧ Below (w.alloc (.cells #[.map (some b)] 145)).heap.size (w.alloc (.cells #[.map (some b)] 145)) w':=by
 have hbl:=hown.lt
 have hseq:SeqGives Fence.wide 2 Tryz.prog 164 #[.pointer (some ⟨w.heap.size,0,none⟩)] encStr (fun ss=>ss.Perm (strKeys D0)) (Maps.size D0) (w.alloc (.cells #[.map (some b)] 145)) :=
   AnyZ.keys_gives (ρ:=zml) { zyg with } Fence.wide _ trivial rfl (by omega) w.heap.size b nn D0 _ (by simp) (by simp) (by
     obtain ⟨es,clock,hb,Ft,hs,hD⟩:=hown
     exact ⟨es,clock,(Below.heap_alloc _ _ b hbl).trans hb,Ft,hs,hD⟩)
 exact callsIn_wide.1 (AnyZ.sorted_in zzr Fence.wide 5 trivial trivial trivial trivial rfl (by omega) (z08 _) (enters_of Tryz.func163 (by kernel_rfl) rfl) 164 #[.pointer (some ⟨w.heap.size,0,none⟩)] trivial (enters_of Tryz.func164 (by kernel_rfl) rfl) _ _ hmax hbytes _ hseq)
theorem ziv (s:ByteArray):s.toList = s.data.toList:=ByteArray.toList_eq s
theorem zqu {ns:List ByteArray} (h:Rise ns):(ns.map fun s=>s.data.toList).Pairwise (fun a b=>(decide (a ≤ b)) = true):=by
 refine List.pairwise_map.2 (List.Pairwise.imp (fun {a b} hab=>?_) h)
 unfold lsB at hab
 rw [Go.Proofs.bytesLess_eq,ziv,ziv] at hab
 rw [decide_eq_true_eq] at *
 exact List.le_of_lt hab
theorem zs3 {ns:List ByteArray} (h:Rise ns):(ns.map fun s=>s.data.toList).Nodup:=by
 refine List.pairwise_map.2 (List.Pairwise.imp (fun {a b} hab e=>?_) h)
 exact zfy hab (zld (by rw [ziv,ziv];exact e))
theorem zsx {H:Type} {D:DataW H} {ns:List ByteArray} (hr:Rise ns) (ht:Tidy D) (hk:∃ es,D = .map es ∧ ∀ p ∈ es,KeysOf Tryz.prog 9 p.1) (hm:∀ s:ByteArray,Maps.has D (.string s.data.toList) = true ↔ s ∈ ns):(ns.map fun s=>s.data.toList).Perm (strKeys D):=by
 obtain ⟨es,rfl,hp⟩:=ht
 obtain ⟨es',e,hk⟩:=hk
 cases e
 refine perm_strKeys hp (fun p hp'=>?_) (zs3 hr) fun x=>?_
 · obtain ⟨v,hv⟩:=hk p hp'
   obtain ⟨x,_,hx,_⟩:=Maps.keyOf_str Tryz.underlying9 hv
   exact ⟨x,hx⟩
 · have h:=hm ⟨x.toArray⟩
   simp only [] at h
   rw [h,List.mem_map]
   constructor
   · rintro ⟨s,hs,rfl⟩
     exact hs
   · intro hs
     exact ⟨_,hs,rfl⟩
theorem zpx {H:Type} (b nn:Nat) (D0:DataW H) (R:Value → Option (DataW H × List MemPlace)) (w:World) (hown:w.ownsMap Tryz.prog 9 R b nn D0) (ns:List ByteArray) (hr:Rise ns) (hm:∀ s:ByteArray,Maps.has D0 (.string s.data.toList) = true ↔ s ∈ ns) (hlen:ns.length ≤ 10000) :
   Calls Tryz.prog 128 #[.func (.func 164) #[] #[.pointer (some ⟨w.heap.size,0,none⟩)]] (w.alloc (.cells #[.map (some b)] 145)) fun e w'=>∃ (v:Value),e = .returned v ∧
     OwnT w' (w.heap.size + 1) ns v ∧ Below (w.heap.size + 1) (w.alloc (.cells #[.map (some b)] 145)) w':=by
 have hp:=zsx hr (hown.tidy (string_keyed Tryz.underlying9)) hown.keysOf hm
 have hsz:Maps.size D0 = ns.length:=by
   obtain ⟨es,rfl,_⟩:=hown.keysOf
   have h1:=hp.length_eq
   simp only [strKeys,List.length_map] at h1
   rw [Maps.size_eq];exact h1.symm
 refine (zs9 b nn D0 R w hown (by unfold maxLen;omega) (by omega)).mono ?_
 rintro e w' ⟨v,ss,rfl,hs,hrow,_,hb⟩
 have e1:(w.alloc (.cells #[.map (some b)] 145)).heap.size = w.heap.size + 1:=by simp
 rw [e1] at hrow hb
 refine ⟨v,rfl,?_,hb⟩
 have e2:ss.length = ns.length:=by rw [hs.length_eq,← hp.length_eq,List.length_map]
 have e3:ss.mergeSort (fun x y=>decide (x ≤ y)) = ns.map fun s=>s.data.toList:=by
   rw [show (ss.mergeSort fun x y=>decide (x ≤ y)) = _ from mergeSort_of_perm (hs.trans hp.symm)]
   exact List.mergeSort_of_pairwise (zqu hr)
 have e4:(ns.map fun s=>s.data.toList).map encStr = txC ns:=by
   rw [List.map_map]
   unfold txC
   refine List.map_congr_left fun s _=>?_
   simp [encStr]
 unfold OwnT
 rw [e2,e3,e4] at hrow
 exact hrow
theorem z2e (mb:Option Nat) (W:World) (B:Nat) (hB:W.heap.size = B):Calls Tryz.prog 129 #[.map mb] W fun e w'=>e = .returned (.func (.func 164) #[] #[.pointer (some ⟨B,0,none⟩)]) ∧ w' = W.alloc (.cells #[.map mb] 145):=by
 subst hB
 exact zsj mb W
theorem zzs {w:World} {b nn:Nat} {ids:List ByteArray} {raw:ByteArray → Nat → Int} (h:Cnt w b nn ids raw) (ns:List ByteArray) (hr:Rise ns) (hm:∀ s:ByteArray,s ∈ ids ↔ s ∈ ns) (hlen:ns.length ≤ 10000) (B:Nat) (hB:w.heap.size = B) :
   Calls Tryz.prog 128 #[.func (.func 164) #[] #[.pointer (some ⟨B,0,none⟩)]] (w.alloc (.cells #[.map (some b)] 145)) fun e w'=>∃ (v:Value),e = .returned v ∧
     OwnT w' (B + 1) ns v ∧ Below (B + 1) (w.alloc (.cells #[.map (some b)] 145)) w':=by
 subst hB
 obtain ⟨D,ho,_,hh⟩:=h
 exact zpx b nn D zsh w ho ns hr (fun s=>(hh s).trans (hm s)) hlen
end Go.Proofs.YthnllikalobmeaaGreat
namespace Go.Proofs.YthnllikalobmeaaGreat
set_option linter.unusedVariables false
set_option linter.unusedSimpArgs false
set_option maxRecDepth 100000
set_option maxHeartbeats 8000000
open Go.RowKit Go.Maps
def rawJ (l:List Fr) (f:Fr) (j:Nat) (s:ByteArray):Nat → Int:=if za5 (f.ids.take j) s = true then maxV (rawF l s) f.v else rawF l s
theorem zvc (l:List Fr) (f:Fr):rawJ l f 0 = rawF l:=by
 funext s;simp [rawJ,za5]
theorem zxe (l:List Fr) {f:Fr} {k:Nat} (hf:l[k]? = some f):rawJ (l.take k) f f.ids.length = rawF (l.take (k + 1)):=by
 funext s
 rw [zdj hf]
 simp [rawJ,rawF,List.foldl_append,zbz]
theorem zuu (A B:Nat → Int):maxV (maxV A B) B = maxV A B:=funext fun j=>zwt A B j
theorem zvb (l:List Fr) (f:Fr) {j:Nat} {s:ByteArray} (hs:f.ids[j]? = some s):(fun x=>if x = s then maxV (rawJ l f j s) f.v else rawJ l f j x) = rawJ l f (j + 1):=by
 funext x
 unfold rawJ
 rw [zdj hs]
 by_cases e:x = s
 · subst e
   have h1:za5 (f.ids.take j ++ [x]) x = true:=among_iff.2 (by simp)
   rw [if_pos rfl,h1,if_pos rfl]
   split
   · exact zuu _ _
   · rfl
 · rw [if_neg e]
   have h1:za5 (f.ids.take j ++ [s]) x = za5 (f.ids.take j) x:=by
     cases h:za5 (f.ids.take j) x with
     | true=>exact among_iff.2 (by simp [among_iff.1 h])
     | false =>
       cases h':za5 (f.ids.take j ++ [s]) x with
       | false=>rfl
       | true =>
         have:=among_iff.1 h'
         simp [e] at this
         rw [among_iff.2 this] at h;cases h
   rw [h1]
theorem zkn {l:List Fr} {k:Nat} {f:Fr} (hf:l[k]? = some f):zag (l.take (k + 1)) = zag (l.take k) ++ f.ids:=by
 rw [zdj hf];simp [zag]
theorem zuc {l:List Fr} {k:Nat}:(zag (l.take k)).length ≤ (zag l).length:=by
 unfold zag
 conv=>rhs;rw [← List.take_append_drop k l]
 rw [List.flatMap_append,List.length_append];omega
def zx9 (l:List Fr) (n:Nat) (w0:World) (i:Value) (wr:World):Prop :=
 ∃ k:Nat,k ≤ n ∧ i = .int .i64 k ∧ Hid (Cnt wr w0.heap.size (zag (l.take k)).length (zag (l.take k)) (rawF (l.take k))) ∧ Hid (Below w0.heap.size w0 wr)
def zx8 (lk:List Fr) (f:Fr) (n:Nat) (w0:World) (X:Array Value) (bf:Nat) (i:Value) (wr:World):Prop :=
 ∃ j:Nat,j ≤ n ∧ i = .int .i64 j ∧ Hid (Cnt wr w0.heap.size ((zag lk).length + j) (zag lk ++ f.ids.take j) (rawJ lk f j)) ∧ Hid (Own wr bf X 105) ∧ Hid (Below w0.heap.size w0 wr)
theorem zlm (l:List Fr) (v:Value) (w:World) (hR:FrW w l v) (hlen:(zag l).length ≤ 10000) :
   Calls Tryz.prog 127 #[v] w fun e w'=>e = .returned (.map (some w.heap.size)) ∧ Cnt w' w.heap.size (zag l).length (zag l) (rawF l) ∧ Below w.heap.size w w':=by
 obtain ⟨U,oa,cap,bl,o,rfl,hF⟩:=hR
 have hc1:=hF.len
 have hc2:=hF.max
 unfold maxLen at hc2
 have HF:=y34h hF
 clear hF
 have hmm:=@run_makeMap Tryz.prog
 have I0:zx9 l l.length w (.int .i64 0) (w.alloc (.map #[] 0)):=⟨0,Nat.zero_le _,rfl,by rw [List.take_zero];exact y34h (Cnt.made w),y34h ((Below.refl _ _).alloc (Nat.le_refl _) _)⟩
 have HI:=y34h I0
 clear I0
 generalize hn:l.length = n at *
 have HN:=y34h hn
 clear hn
 go_enter Tryz.func127,Tryz.ntmps127
 go_wp2_with fail
 go_loopw [11] (fun i wr=>zx9 l n w i wr) (fun i _=>n - (intOf i).toNat)
 case atStart=>exact HI.out
 case round =>
   clear HI
   obtain ⟨k,hk,rfl,HC,HB⟩:=hrel
   by_cases hlt:k < n
   · obtain ⟨f,hf⟩:∃ f,l[k]? = some f:=⟨_,List.getElem?_eq_getElem (by rw [HN.out];exact hlt)⟩
     have hat:=HF.out.at0 (by rw [HN.out];omega)
     obtain ⟨rfl,hbl⟩:=hat
     have FL:=HF.out.later HB.out (Nat.le_refl _)
     obtain ⟨c0,c1,c2,c3,c4,c5,c6,c7,c8⟩:=za6 (w:=wr) (fun j u hu=>FL.cell k f hf j u hu)
     have zl:bl < wr.heap.size:=Nat.lt_of_lt_of_le hbl HB.out.size
     obtain ⟨ob,cb,b',o',hU,hT⟩:=HF.out.ids k f hf
     have ht1:=hT.len
     have ht2:=hT.max
     unfold maxLen at ht2
     have HT:=y34h hT
     have HL:=y34h (show (zag (l.take k)).length + f.ids.length ≤ 10000 by
       have h1:=zuc (l:=l) (k:=k + 1)
       rw [zkn hf,List.length_append] at h1
       omega)
     have HJ0:=y34h (zvc (l.take k) f)
     have HJ1:=y34h (zxe l hf)
     have HJ2:=y34h (zkn hf)
     rw [hU] at c0
     clear FL hT hf
     generalize hk1:l.take (k + 1) = lk1 at *
     have HK1:=y34h hk1
     have hkn:=y34h hlt
     clear hk1
     generalize l.take k = lk at *
     have CA:=HC.out.later ((Below.refl _ wr).alloc (Nat.le_refl _) (.cells #[.slice ob f.ids.length cb,.int .i64 (f.v 0),.int .i64 (f.v 1),.int .i64 (f.v 2),.int .i64 (f.v 3),.int .i64 (f.v 4),.int .i64 (f.v 5),.int .i64 (f.v 6),.int .i64 (f.v 7)] 105))
     have J0:zx8 lk f f.ids.length w #[.slice ob f.ids.length cb,.int .i64 (f.v 0),.int .i64 (f.v 1),.int .i64 (f.v 2),.int .i64 (f.v 3),.int .i64 (f.v 4),.int .i64 (f.v 5),.int .i64 (f.v 6),.int .i64 (f.v 7)] wr.heap.size (.int .i64 0) (wr.alloc (.cells #[.slice ob f.ids.length cb,.int .i64 (f.v 0),.int .i64 (f.v 1),.int .i64 (f.v 2),.int .i64 (f.v 3),.int .i64 (f.v 4),.int .i64 (f.v 5),.int .i64 (f.v 6),.int .i64 (f.v 7)] 105)) :=
       ⟨0,Nat.zero_le _,rfl,by rw [HJ0.out,List.take_zero,List.append_nil];exact y34h CA,y34h (Own.new _ _ _),y34h (HB.out.alloc HB.out.size _)⟩
     have HJ:=y34h J0
     have HC0:=HC.out.lt
     clear J0 CA HC HJ0
     have hbf:w.heap.size < wr.heap.size:=HC0
     generalize hm:f.ids.length = m at *
     have HM:=y34h hm
     clear hm
     go_upto_block 2 with fail
     clear c0 c1 c2 c3 c4 c5 c6 c7 c8 hlt zl hbl
     generalize wr.heap.size = bf at *
     go_wp2_with fail
     go_loopw [18] (fun i wr=>zx8 lk f m w #[.slice ob m cb,.int .i64 (f.v 0),.int .i64 (f.v 1),.int .i64 (f.v 2),.int .i64 (f.v 3),.int .i64 (f.v 4),.int .i64 (f.v 5),.int .i64 (f.v 6),.int .i64 (f.v 7)] bf i wr) (fun i _=>m - (intOf i).toNat)
     case atStart=>exact HJ.out
     case round =>
       clear HJ HB
       obtain ⟨j,hj,rfl,HC,HO,HB⟩:=hrel
       by_cases hlt:j < m
       · obtain ⟨s,hs⟩:∃ s,f.ids[j]? = some s:=⟨_,List.getElem?_eq_getElem (by rw [HM.out];exact hlt)⟩
         obtain ⟨rfl,hbt⟩:=HT.out.at0 (by rw [HM.out];omega)
         have cs:=(HT.out.later HB.out (Nat.le_refl _)).cell j s hs
         have zt:b' < wr.heap.size:=Nat.lt_of_lt_of_le hbt HB.out.size
         have hsz:=HT.out.ok s (List.mem_of_getElem? hs)
         have hlk:=HC.out.look hsz
         have lo:=HO.out.cell
         have zo:=HO.out.lt
         have HS:=y34h (zvb lk f hs)
         have HT2:=y34h (zdj hs)
         have hnn:(zag lk).length + j < maxLen:=by have:=HL.out;unfold maxLen;omega
         have CM:=fun w'=>y34h (zp5 (rawJ lk f j s) f.v w')
         have PUT:=fun w' (h3:Below wr.heap.size wr w')=>(HC.out.later h3).put hsz hnn (maxV (rawJ lk f j s) f.v)
         have PP:=y34h PUT
         have HZ:=y34h hsz
         clear hs hsz hbt PUT
         go_wp2_with (go_at_call 161;refine (CM _).out.mono ?_;rintro e w3 ⟨rfl,hb3⟩;obtain ⟨w4,hput,hc4,hg4⟩:=PP.out w3 hb3)
         have B4:=y34h ((HB.out.trans (hb3.mono HB.out.size)).grown hg4 (by have:=hb3.size;have:=HB.out.size;omega) (fun q hq=>by cases hq;exact Nat.le_refl _))
         have O4:=y34h ((HO.out.later hb3).grown hg4 (by simp;omega))
         go_roundw
         case rel=>exact ⟨j + 1,by omega,by go_num,by rw [HT2.out,← HS.out,← List.append_assoc];exact y34h hc4,O4,B4⟩
         case measure=>simp [intOf];omega
       · have e:j = m:=by omega
         subst e
         have HC2:=y34h (show Cnt wr w.heap.size (zag lk1).length (zag lk1) (rawF lk1) by
           have h:=HC.out
           rw [HJ1.out,← HM.out,List.take_length,← List.length_append,← HJ2.out] at h
           exact h)
         have hkn':=hkn.out
         go_wp2_with fail
         go_roundw
         case rel=>exact ⟨k + 1,by omega,by go_num,by rw [HK1.out];exact HC2,HB⟩
         case measure=>simp [intOf];omega
   · have e:k = n:=by omega
     have h:=HC.out
     rw [List.take_of_length_le (by rw [HN.out];omega)] at h
     have H7:=y34h h
     clear h e
     go_wp2_with fail
     go_ret
     exact ⟨rfl,H7.out,HB.out⟩
end Go.Proofs.YthnllikalobmeaaGreat
namespace Go.Proofs.YthnllikalobmeaaGreat
set_option linter.unusedVariables false
set_option linter.unusedSimpArgs false
set_option maxRecDepth 100000
set_option maxHeartbeats 8000000
open Go.RowKit
def bzV (V A:Nat → Int) (j:Nat):Int:=if V j ≤ A j then 0 else V j
def bz8 (V A:Nat → Int) (k:Nat) (j:Nat):Int:=if j < k then bzV V A j else V j
theorem zv6 (V A:Nat → Int):arr8 V = arr8 (bz8 V A 0):=zbf fun j _=>by unfold bz8;rw [if_neg (by omega)]
theorem ztx (V A:Nat → Int):arr8 (bz8 V A 8) = arr8 (bzV V A):=zbf fun j h=>by unfold bz8;rw [if_pos h]
theorem zyx (V A:Nat → Int) {k:Nat} {v:Int} (hv:v = bzV V A k):arr8 (fun j=>if j = k then v else bz8 V A k j) = arr8 (bz8 V A (k + 1)):=zbf fun j _=>by
 unfold bz8
 by_cases e:j = k
 · subst e;rw [if_pos rfl,if_pos (by omega)];exact hv
 · rw [if_neg e]
   by_cases h:j < k
   · rw [if_pos h,if_pos (by omega)]
   · rw [if_neg h,if_neg (by omega)]
theorem zv5 (V A:Nat → Int) {k:Nat} (hv:V k = bzV V A k):arr8 (bz8 V A k) = arr8 (bz8 V A (k + 1)):=zbf fun j _=>by
 unfold bz8
 by_cases e:j = k
 · subst e;rw [if_neg (by omega),if_pos (by omega)];exact hv
 · by_cases h:j < k
   · rw [if_pos h,if_pos (by omega)]
   · rw [if_neg h,if_neg (by omega)]
structure BZ (V A:Nat → Int) (k:Nat) (w wr:World):Prop where
 o1:Own wr w.heap.size (arr8 (bz8 V A k)) 28
 o3:Own wr (w.heap.size + 1 + 1) (arr8 fun _=>0) 28
 bel:Below w.heap.size w wr
def z1l (V A:Nat → Int) (w:World) (i:Value) (wr:World):Prop:=∃ k:Nat,k ≤ 8 ∧ i = .int .i64 k ∧ Hid (BZ V A k w wr)
theorem zjn (V A:Nat → Int) (w:World) :
   Calls Tryz.prog 130 #[vecV V,vecV A] w fun e w'=>e = .returned (vecV (bzV V A)) ∧ Below w.heap.size w w':=by
 have I0:BZ V A 0 w (((w.alloc (.cells (arr8 V) 28)).alloc (.cells (arr8 A) 28)).alloc (.cells (arr8 fun _=>0) 28)) :=
   ⟨by rw [← zv6];exact ((Own.new w _ _).alloc _).alloc _,Own.newAt _ _ _ (by simp),(((Below.refl _ _).alloc (Nat.le_refl _) _).alloc (by simp) _).alloc (by simp;omega) _⟩
 have HI0:=y34h I0
 clear I0
 go_enter Tryz.func130,Tryz.ntmps130
 go_wp2_with fail
 go_loopw [8] (fun i wr=>z1l V A w i wr) (fun i _=>8 - (intOf i).toNat)
 case atStart=>exact ⟨0,by omega,rfl,HI0⟩
 case round =>
   clear HI0
   obtain ⟨k,hk,rfl,HP⟩:=hrel
   by_cases hlt:k < 8
   · have ix:=fun w=>idx8 A hlt w
     have ca:=(HP.out.o1.cell k).trans (zbo (bz8 V A k) hlt)
     rw [show bz8 V A k k = V k by unfold bz8;rw [if_neg (by omega)]] at ca
     have fa:=HP.out.o1.free k
     have z1:=HP.out.o1.lt
     have k0:(0:Int) ≤ (k:Int):=by omega
     have k1:(k:Int) < 8:=by omega
     by_cases h:V k ≤ A k
     · have g:decide (V k ≤ A k) = true:=decide_eq_true h
       have HR:Hid (BZ V A (k + 1) w (wr.setCell ⟨w.heap.size,k,none⟩ (.int .i64 0))):=y34h (by
         refine ⟨?_,HP.out.o3.setFar _ _ (by show w.heap.size + 1 + 1 ≠ w.heap.size;omega),HP.out.bel.setCell (p:=⟨w.heap.size,k,none⟩) (Nat.le_refl _) _⟩
         rw [← zyx V A (v:=0) (by unfold bzV;rw [if_pos h]),← zdm _ hlt]
         exact HP.out.o1.set k _)
       go_wp2_with fail
       go_roundw
       case rel=>exact ⟨k + 1,by omega,by go_num,HR⟩
       case measure=>simp [intOf];omega
     · have g:decide (V k ≤ A k) = false:=decide_eq_false h
       have HR:Hid (BZ V A (k + 1) w wr):=y34h ⟨by rw [← zv5 V A (by unfold bzV;rw [if_neg h])];exact HP.out.o1,HP.out.o3,HP.out.bel⟩
       go_wp2_with fail
       go_roundw
       case rel=>exact ⟨k + 1,by omega,by go_num,HR⟩
       case measure=>simp [intOf];omega
   · have e:k = 8:=by omega
     subst e
     have o1:=HP.out.o1
     rw [ztx] at o1
     have l3:=HP.out.o3.cell
     have f3:=HP.out.o3.free
     have z3:=HP.out.o3.lt
     have l4:=o1.cell
     have z4:=o1.lt
     have BEL:=y34h HP.out.bel
     go_wp2_with fail
     have key:=And.intro (zbl HP.out.o3 (.int .i64 ((bzV V A) 0)) (.int .i64 ((bzV V A) 1)) (.int .i64 ((bzV V A) 2)) (.int .i64 ((bzV V A) 3)) (.int .i64 ((bzV V A) 4)) (.int .i64 ((bzV V A) 5)) (.int .i64 ((bzV V A) 6)) (.int .i64 ((bzV V A) 7))) (za3 (b:=w.heap.size + 1 + 1) BEL.out (by omega) (.int .i64 ((bzV V A) 0)) (.int .i64 ((bzV V A) 1)) (.int .i64 ((bzV V A) 2)) (.int .i64 ((bzV V A) 3)) (.int .i64 ((bzV V A) 4)) (.int .i64 ((bzV V A) 5)) (.int .i64 ((bzV V A) 6)) (.int .i64 ((bzV V A) 7)))
     clear l3 f3 z3 l4 z4
     unfold st8 at key
     revert key
     generalize World.setCell (World.setCell (World.setCell (World.setCell (World.setCell (World.setCell (World.setCell (World.setCell _ _ _) _ _) _ _) _ _) _ _) _ _) _ _) _ _ = WW
     rintro ⟨of,bf⟩
     have lf:=of.cell
     refine bodyPost_ret (v:=vecV ((bzV V A))) (by simp [results,Tryz.results130,go_sem,lf]) rfl ⟨rfl,bf⟩
end Go.Proofs.YthnllikalobmeaaGreat
namespace Go.Proofs.YthnllikalobmeaaGreat
set_option linter.unusedVariables false
set_option linter.unusedSimpArgs false
set_option maxRecDepth 100000
set_option maxHeartbeats 8000000
open Go.RowKit Go.Maps
theorem zth {A B:Nat → Int} (h:∀ j,j < 8 → A j = B j):vecV A = vecV B:=by
 simp only [vecV,h 0 (by omega),h 1 (by omega),h 2 (by omega),h 3 (by omega),h 4 (by omega),h 5 (by omega),h 6 (by omega),h 7 (by omega)]
def KRel (F:ByteArray → Nat → Int) (ns:List ByteArray) (nn:Nat) (w0:World) (base bm bp nc:Nat) (X Z:Array Value) (ids:List ByteArray) (raw:ByteArray → Nat → Int) (nv:Value) (lv iv:Value) (wr:World):Prop :=
 ∃ (k:Nat) (U:Nat → Value),k ≤ nn ∧ iv = .int .i64 k ∧ Hid (KP w0 base bm bp nc X Z ids raw ns nv ((grpF F (ns.take k)).map (·.v)) (grpF F (ns.take k)) U lv wr)
theorem zff (K:Kn) (v:Value) (w:World) (hR:FrW w K.l v) (hlen:(zag K.l).length ≤ 10000) :
   Calls Tryz.prog 81 #[knV K.star v] w fun e w'=>∃ v',e = .returned (knV K.star v') ∧ FrOwn w' w.heap.size (zah K).l v' ∧ Below w.heap.size w w':=by
 have hN:=fun w' (hb:Below w.heap.size w w')=>zlm K.l v w' (hR.later hb (Nat.le_refl _)) hlen
 have HNL:=y34h (show (zbd K).length ≤ 10000 from Nat.le_trans (zir _) hlen)
 have HOK:Hid (∀ s ∈ zbd K,s.size ≤ maxLen):=by
   obtain ⟨U,oa,cap,b,o,_,hr⟩:=hR
   exact fun s hs=>fr_ok hr s (mem_all.1 hs)
 obtain ⟨ov,cv,rfl⟩:=hR.val
 have HP:=y34h (show (zah K).l = grpF (beyB K) (zbd K) from rfl)
 have HBZ:=y34h (show ∀ id,vecV (bzV (rawF K.l id) K.star) = vecV (beyB K id) from fun id=>zth fun j hj=>by unfold bzV beyB;rw [if_pos hj])
 obtain ⟨A,l⟩:=K
 simp only at *
 generalize (zah ⟨A,l⟩).l = res at *
 have hbx:Below w.heap.size w ((w.alloc (.cells (knA A (.slice ov l.length cv)) 31)).alloc (.cells (knA zad (.slice none 0 0)) 31)) :=
   ((Below.refl _ _).alloc (Nat.le_refl _) _).alloc (by simp) _
 have N:=y34h (hN _ hbx)
 have hrise:=y34h (zjx (zag l))
 have hmem:=y34h (fun s:ByteArray=>(mem_all (l:=zag l) (x:=s)).symm)
 have e:zbd ⟨A,l⟩ = zbq (zag l):=rfl
 rw [e] at HP HNL HOK
 clear e
 generalize zbq (zag l) = ns at *
 have I1:=y34h (show Own _ _ _ _ ∧ Own _ _ _ _ ∧ Below _ _ _ from ⟨(Own.new w (knA A (.slice ov l.length cv)) 31).alloc (.cells (knA zad (.slice none 0 0)) 31),Own.newAt (w.alloc (.cells (knA A (.slice ov l.length cv)) 31)) (knA zad (.slice none 0 0)) 31 (b:=w.heap.size + 1) (by simp),hbx⟩)
 have hsz2:((w.alloc (.cells (knA A (.slice ov l.length cv)) 31)).alloc (.cells (knA zad (.slice none 0 0)) 31)).heap.size = w.heap.size + 2:=by simp
 rw [hsz2] at N
 have HZ2:=y34h hsz2
 clear hbx hN hsz2
 have hmm:=@run_makeMap Tryz.prog
 go_enter Tryz.func81,Tryz.ntmps81
 go_wp2_with (first
   | (go_at_call 127;refine N.out.mono ?_;rintro e w3 ⟨rfl,hcnt,hb3⟩)
   | (go_at_call 129;have hc4:=y34h (hcnt.later ((Below.refl w3.heap.size w3).alloc (Nat.le_refl _) (.map #[] 0)));refine (z2e (some (w.heap.size + 2)) (w3.alloc (.map #[] 0)) (w3.heap.size + 1) (by simp)).mono ?_;rintro e w4 ⟨rfl,rfl⟩)
   | (go_at_call 128;refine (zzs hc4.out ns hrise.out hmem.out HNL.out (w3.heap.size + 1) (by simp)).mono ?_;rintro e w5 ⟨nv,rfl,hnv,hb5⟩;obtain ⟨on,cn,gn,rfl,hn1,hn2,hn3⟩:=zan hnv)
   | fail)
 have e4:((w3.alloc (.map #[] 0)).alloc (.cells #[.map (some (w.heap.size + 2))] 145)).heap.size = w3.heap.size + 1 + 1:=by simp
 have hb5':=hb5
 rw [← e4] at hb5'
 have hs3:=hcnt.lt
 have hs5:=hb5.size
 rw [e4] at hs5
 have S0:=y34h (show KP w w5.heap.size (w.heap.size + 2) w3.heap.size _ (knA A (.slice ov l.length cv)) (knA zad (.slice none 0 0)) (zag l) (rawF l) ns (.slice on ns.length cn) [] [] (fun _=>.slice none 0 0) (.slice none 0 0) w5 from
   ⟨((((I1.out.1.below hb3 (by omega)).alloc _).alloc _).later hb5'),((((I1.out.2.1.below hb3 (by omega)).alloc _).alloc _).later hb5'),(hc4.out.later ((Below.refl _ _).alloc (Nat.le_refl _) _)).later hb5',((Pcs.made w3).later ((Below.refl _ _).alloc (Nat.le_refl _) _)).later hb5',hnv.mono (by omega),fun b hb=>(World.ownsRow.lt hnv b hb).2,PK.nil _ _ _,
     ((((I1.out.2.2.trans (hb3.mono (by omega))).alloc (by omega) _).alloc (by simp;omega) _).trans (hb5.mono (by omega))),by omega,⟨by omega,by omega⟩,by omega,Nat.le_refl _⟩)
 have hcap:=hn1
 have hmax:=hn2
 unfold maxLen at hmax
 have HN3:=y34h hn3
 clear hnv hb5 hb5' hb3 hcnt hc4 I1 N hn1 hn2 hn3 hR e4 hs3 hs5 HZ2 hmem hrise
 generalize w5.heap.size = base at *
 generalize w3.heap.size = bp at *
 generalize hF:beyB ⟨A,l⟩ = F at *
 generalize hbm:w.heap.size + 2 = bm at *
 generalize hnn:ns.length = nn at *
 have HNN:=y34h hnn
 clear hnn hF hbm
 go_wp2_with fail
 go_loopw [5,19] (fun lv iv wr=>KRel F ns nn w base bm bp (zag l).length (knA A (.slice ov l.length cv)) (knA zad (.slice none 0 0)) (zag l) (rawF l) (.slice on nn cn) lv iv wr) (fun _ iv _=>nn - (intOf iv).toNat)
 case atStart=>exact ⟨0,_,Nat.zero_le _,rfl,by simpa [grpF] using S0⟩
 case round =>
   clear S0
   obtain ⟨k,U,hk,rfl,HS⟩:=hrel
   by_cases hlt:k < nn
   · obtain ⟨id,hid⟩:∃ id,ns[k]? = some id:=⟨_,List.getElem?_eq_getElem (by rw [HNN.out];exact hlt)⟩
     obtain ⟨rfl,hgn⟩:=HN3.out (by omega)
     have c0:wr.cell? ⟨gn,k,none⟩ = some (.string id):=by
       have h:=HS.out.nm
       unfold OwnT at h
       rw [HNN.out] at h
       rw [h.cellAt k (by omega)]
       simp [txC,hid]
     have zg:gn < wr.heap.size:=(World.ownsRow.lt HS.out.nm gn rfl).2
     have hsz:=HOK.out id (List.mem_of_getElem? hid)
     have HG:=y34h (zot (F:=F) hid)
     have HK:=y34h (Nat.le_trans (zln F (ns.take k) []) (show [].length + (ns.take k).length ≤ k by rw [List.length_take];simp;omega))
     have HOL:(grpF F (ns.take k)).length ≤ k:=HK.out
     have HIDL:=y34h (show ∀ f ∈ grpF F (ns.take k),f.ids.length ≤ 10000 from fun f hf=>by
       have h1:=zmg (F:=F) (ns.take k) [] 0 (fun g hg=>by simp at hg) f hf
       rw [List.length_take] at h1
       have:=HNL.out;have:=HNN.out
       omega)
     have HID:=y34h hid
     clear hid HK
     generalize grpF F (ns.take k) = o at *
     have hlk:=HS.out.cnt.look hsz
     have l1:=HS.out.o1.cell
     have z1:=HS.out.o1.lt
     have CB:∀ w',Hid (Calls Tryz.prog 130 #[vecV (rawF l id),vecV A] w' fun e w''=>e = .returned (vecV (F id)) ∧ Below w'.heap.size w' w''):=fun w'=>y34h (by rw [← HBZ.out id];exact zjn (rawF l id) A w')
     have HSZ:=y34h hsz
     obtain ⟨oL,cL,gL,rfl,hL1,hL2,hL3⟩:=zan HS.out.pk.row
     have HL3:=y34h hL3
     unfold maxLen at hL2
     generalize hno:o.length = no at *
     have HNO:=y34h hno
     clear hno hsz hL3
     go_upto_region 8 with (go_at_call 130;refine (CB _).out.mono ?_;rintro e w7 ⟨rfl,hb7⟩)
     have HV:=y34h (Own.new w7 (arr8 (F id)) 28)
     have HQ:=y34h ((HS.out.later hb7).alloc (.cells (arr8 (F id)) 28))
     have hbv:=y34h (Nat.le_trans HS.out.hw hb7.size)
     clear HS hlk l1 z1 CB c0 zg hb7
     generalize w7.heap.size = bv at *
     generalize w7.alloc (.cells (arr8 (F id)) 28) = wq at *
     have lv:=HV.out.cell
     have zv:=HV.out.lt
     have hz:=fun w'=>show (Op.equalIn 10000 28 (.agg #[.int .i64 (F id 0),.int .i64 (F id 1),.int .i64 (F id 2),.int .i64 (F id 3),.int .i64 (F id 4),.int .i64 (F id 5),.int .i64 (F id 6),.int .i64 (F id 7)]) (.agg #[.int .i64 0,.int .i64 0,.int .i64 0,.int .i64 0,.int .i64 0,.int .i64 0,.int .i64 0,.int .i64 0])).run Tryz.prog w' = .ok (eqV (F id) zad) w' from zek (F id) zad w'
     cases hzz:eqV (F id) zad
     · rw [hzz] at hz
       have HG2:=y34h (show grpF F (ns.take (k + 1)) = putF (F id) id o by rw [HG.out];unfold zax;rw [if_neg (by rw [hzz];simp)])
       clear HG hzz
       go_upto_region 9 with fail
       go_cut [9,10] (fun s9 s10 wx=>∃ (a:Int) (b:Bool),s9 = .int .i64 a ∧ s10 = .bool b ∧ Hid (wq = wx) ∧ Hid ((b = true ∧ ∃ (i:Nat) (f:Fr),a = i ∧ o[i]? = some f ∧ putF (F id) id o = o.set i ⟨f.ids ++ [id],f.v⟩) ∨ (b = false ∧ ∀ (j:Nat) (g:Fr),j < o.length → o[j]? = some g → eqV g.v (F id) = false)))
       case first =>
         rcases zok (F id) o with ⟨a,f,hf,hn,he⟩ | hn
         · have hit:=HQ.out.pcs.hit (zja hf hn he).1 (zja hf hn he).2
           have hit:(Instr.lookup 147 (.map (some bp)) (.agg #[.int .i64 (F id 0),.int .i64 (F id 1),.int .i64 (F id 2),.int .i64 (F id 3),.int .i64 (F id 4),.int .i64 (F id 5),.int .i64 (F id 6),.int .i64 (F id 7)]) true).run Tryz.prog wq = .ok (.tuple #[.int .i64 a,.bool true]) wq:=hit
           have HPE:=y34h (zpl (id:=id) hf hn he)
           have HF:=y34h hf
           clear hf hn he hz
           go_wp2_with fail
           go_meet
           exact ⟨a,true,rfl,rfl,y34h rfl,y34h (.inl ⟨rfl,a,f,rfl,HF.out,HPE.out⟩)⟩
         · have miss:=HQ.out.pcs.miss (zh5 hn)
           have miss:(Instr.lookup 147 (.map (some bp)) (.agg #[.int .i64 (F id 0),.int .i64 (F id 1),.int .i64 (F id 2),.int .i64 (F id 3),.int .i64 (F id 4),.int .i64 (F id 5),.int .i64 (F id 6),.int .i64 (F id 7)]) true).run Tryz.prog wq = .ok (.tuple #[.int .i64 0,.bool false]) wq:=miss
           have HN0:=y34h hn
           clear hn hz
           go_wp2_with fail
           go_meet
           exact ⟨0,false,rfl,rfl,y34h rfl,y34h (.inr ⟨rfl,HN0.out⟩)⟩
       case rest =>
         obtain ⟨ai,bi,rfl,rfl,hwx,HB⟩:=hcut
         have ewx:=hwx.out
         subst ewx
         clear hwx
         go_upto_if 39 with fail
         go_cut [5,9] (fun s5 s9 wx=>∃ (a no' gL' cL':Nat),s5 = .slice (some ⟨gL',0,none⟩) no' cL' ∧ s9 = .int .i64 a ∧ Hid (∃ (o':List Fr) (U':Nat → Value) (f:Fr),o'.length = no' ∧ KP w base bm bp (zag l).length (knA A (.slice ov l.length cv)) (knA zad (.slice none 0 0)) (zag l) (rawF l) ns (.slice (some ⟨gn,0,none⟩) nn cn) (o'.map (·.v)) o' U' (.slice (some ⟨gL',0,none⟩) no' cL') wx ∧ o'[a]? = some f ∧ f.ids.length ≤ 10000 ∧ putF (F id) id o = o'.set a ⟨f.ids ++ [id],f.v⟩))
         case first =>
           rcases HB.out with ⟨rfl,a,f,rfl,hf,hpe⟩ | ⟨rfl,hn⟩
           · have HPE:=y34h hpe
             have HF:=y34h hf
             have hlt2:a < no:=by have:=posA hf;rw [HNO.out] at this;exact this
             obtain ⟨rfl,hgL⟩:=HL3.out (by omega)
             clear hf hpe hz
             go_wp2_with fail
             go_meet
             exact ⟨a,no,gL,cL,rfl,rfl,y34h ⟨o,U,f,HNO.out,HQ.out,HF.out,HIDL.out f (List.mem_of_getElem? HF.out),HPE.out⟩⟩
           · have HPE:=y34h (zlx (v:=F id) (id:=id) (o:=o) hn)
             obtain ⟨w8,hput,hp8,hg8⟩:=HQ.out.pcs.put (zh5 hn)
             rw [List.length_map,HNO.out] at hput
             have hput:(Instr.mapUpdate 147 (.map (some bp)) (.agg #[.int .i64 (F id 0),.int .i64 (F id 1),.int .i64 (F id 2),.int .i64 (F id 3),.int .i64 (F id 4),.int .i64 (F id 5),.int .i64 (F id 6),.int .i64 (F id 7)]) (.int .i64 (no:Int))).run Tryz.prog wq = .ok () w8:=hput
             have H8:=y34h (HQ.out.put hp8 hg8)
             have V8:=HV.out.grown hg8 (by simp only [ne_eq,Option.some.injEq];have:=HQ.out.hp;have:=hbv.out;omega)
             have lv8:=V8.cell
             have zv8:=V8.lt
             clear hn hz hp8 hg8 V8
             have HSA:=y34h (H8.out.alloc (.cells #[.slice none 0 0,.int .i64 (F id 0),.int .i64 (F id 1),.int .i64 (F id 2),.int .i64 (F id 3),.int .i64 (F id 4),.int .i64 (F id 5),.int .i64 (F id 6),.int .i64 (F id 7)] 105))
             have hown:(w8.alloc (.cells #[.slice none 0 0,.int .i64 (F id 0),.int .i64 (F id 1),.int .i64 (F id 2),.int .i64 (F id 3),.int .i64 (F id 4),.int .i64 (F id 5),.int .i64 (F id 6),.int .i64 (F id 7)] 105)).ownsRow base 105 9 (.slice oL no cL) no (frCs U 0 o):=by
               have h:=HSA.out.pk.row
               rw [HNO.out] at h
               exact h
             obtain ⟨j0,hj,hy0,hy1,hy2⟩:=info_parts zcs
             have hnl:=HNL.out
             have hnn2:=HNN.out
             have t1:base ≤ (w8.alloc (.cells #[.slice none 0 0,.int .i64 (F id 0),.int .i64 (F id 1),.int .i64 (F id 2),.int .i64 (F id 3),.int .i64 (F id 4),.int .i64 (F id 5),.int .i64 (F id 6),.int .i64 (F id 7)] 105)).heap.size:=by have:=H8.out.hw;simp;omega
             have t2:(w8.alloc (.cells #[.slice none 0 0,.int .i64 (F id 0),.int .i64 (F id 1),.int .i64 (F id 2),.int .i64 (F id 3),.int .i64 (F id 4),.int .i64 (F id 5),.int .i64 (F id 6),.int .i64 (F id 7)] 105)).heap.size = w8.heap.size + 1:=by simp
             have t3:no + 1 ≤ maxLen:=by unfold maxLen;omega
             have t4:(no + 1) * 88 ≤ 140737488355328:=by omega
             clear hnn2
             go_upto_region 13 with fail
             go_wp2_with (at_builtin;refine wpList_append_lies _ (by rfl) _ _ _ (by rfl) base 105 j0 _ 9 88 Tryz.underlying29 hj hy0 hy1 hy2 rfl (by omega) (.slice oL no cL) no (frCs U 0 o) (by rfl) hown ⟨w8.heap.size,0,none⟩ 1 1 (fc ⟨[],F id⟩ (.slice none 0 0)) (by rfl) (by rfl) zyh (oneF _ rfl) (by omega) t3 t4 t1 (w8.heap.size + 1) t2 ?_;intro g cap' w9 hown9 hgrow hat9 hlt9;have R:=HSA.out.addF (F id) (by rw [HNO.out]) hown9 hgrow)
             go_meet
             exact ⟨no,no + 1,g,cap',rfl,rfl,y34h ⟨o ++ [(⟨[],F id⟩:Fr)],_,⟨[],F id⟩,by simp [HNO.out],by rw [List.map_append];exact R,by rw [← HNO.out];simp,by simp,by rw [HPE.out,HNO.out]⟩⟩
         case rest =>
           clear HB HQ HV hbv hz lv zv HL3 hL1 hL2 HIDL HNO
           obtain ⟨a,no',gL',cL',rfl,rfl,HC⟩:=hcut
           obtain ⟨o',U',f,hno',hs,hf,hil,hpe⟩:=HC.out
           clear HC
           generalize wc = wq at *
           have HQ:=y34h hs
           have HF:=y34h hf
           have HGK:=y34h (show grpF F (ns.take (k + 1)) = o'.set a ⟨f.ids ++ [id],f.v⟩ by rw [HG2.out,hpe])
           have hlt3:a < no':=by have:=posA hf;omega
           have HNO:=y34h hno'
           clear hs hf hpe HG2 hno'
           have hUT:=HQ.out.pk.ids a f HF.out
           obtain ⟨oU,cU,gU,hUa,hU1,hU2,hU3⟩:=zan hUT
           obtain ⟨d0,_⟩:=za6 (w:=wq) (o:=a * 9) (HQ.out.pk.at HF.out)
           rw [hUa] at d0
           have hown:(wq.alloc (.cells #[.string id] 9)).ownsRow base 9 1 (.slice oU f.ids.length cU) f.ids.length (txC f.ids):=by
             have h:=OwnT.alloc hUT (.cells #[.string id] 9)
             rw [hUa] at h
             exact h
           have HUA:=y34h hUa
           have zL7:gL' < wq.heap.size:=(World.ownsRow.lt HQ.out.pk.row gL' rfl).2
           have hidl:(f.ids.length + 1) * 16 ≤ 140737488355328:=by omega
           obtain ⟨i0,hi,hz0,hz1,hz2⟩:=info_parts zfv
           have HSA:=y34h (HQ.out.alloc (.cells #[.string id] 9))
           have t1:base ≤ (wq.alloc (.cells #[.string id] 9)).heap.size:=by have:=HQ.out.hw;simp;omega
           have t2:(wq.alloc (.cells #[.string id] 9)).heap.size = wq.heap.size + 1:=by simp
           have t3:f.ids.length + 1 ≤ maxLen:=by unfold maxLen;omega
           have hsl:no' ≤ cL':=by
             obtain ⟨oq,cq,gq,eq,h1,_⟩:=zan HQ.out.pk.row
             rw [HNO.out] at eq h1
             cases eq;exact h1
           clear hUa hUT hU1 hU2 hU3 HQ hil
           go_wp2_with (at_builtin;refine wpList_append_lies _ (by rfl) _ _ _ (by rfl) base 9 i0 _ 1 16 Tryz.underlying103 hi hz0 hz1 hz2 rfl (by omega) (.slice oU f.ids.length cU) f.ids.length (txC f.ids) (by rfl) hown ⟨wq.heap.size,0,none⟩ 1 1 [.string id] (by rfl) (by rfl) (ze7 (w:=wq)) (oneT id) (by omega) t3 hidl t1 (wq.heap.size + 1) t2 ?_;intro g cap' w3 hown3 hgrow hat3 hlt3;have R:=y34h (HSA.out.addT HF.out id rfl hown3 (by rw [HUA.out];exact hgrow) (by rw [HUA.out];simpa using hat3));have rw3:=World.ownsRow.kept HSA.out.pk.row hgrow (by rw [← HUA.out];exact zby HSA.out.pk.row (HSA.out.pk.ids a f HF.out) (fun e=>zft e.symm));have cw3:=zrb rw3 HF.out;have fw3:=zd9 rw3 (a * 9);clear rw3 hown3 hgrow hat3)
           go_roundw
           case rel=>exact ⟨k + 1,_,by omega,by go_num,y34h (by rw [HGK.out,zut (f':=⟨f.ids ++ [id],f.v⟩) HF.out rfl];exact R.out)⟩
           case measure=>simp [intOf];omega
     · rw [hzz] at hz
       have HG2:=y34h (show grpF F (ns.take (k + 1)) = o by rw [HG.out];unfold zax;rw [if_pos hzz])
       clear HG hzz
       have HQ2:=y34h (show KP w base bm bp (zag l).length (knA A (.slice ov l.length cv)) (knA zad (.slice none 0 0)) (zag l) (rawF l) ns (.slice (some ⟨gn,0,none⟩) nn cn) ((grpF F (ns.take (k + 1))).map (·.v)) (grpF F (ns.take (k + 1))) U (.slice oL no cL) wq by rw [HG2.out];exact HQ.out)
       go_wp2_with fail
       go_roundw
       case rel=>exact ⟨k + 1,U,by omega,by go_num,HQ2⟩
       case measure=>simp [intOf];omega
   · have e:nn = k:=by omega
     subst e
     have h1:=HS.out
     rw [show ns.take nn = ns from List.take_of_length_le (by rw [HNN.out];omega)] at h1
     have hfr:=kp9o h1 (fun f hf s hs=>HOK.out s (by
       rcases zre (F:=F) ns [] ⟨f,hf,hs⟩ with h | ⟨g,hg,_⟩
       · exact h
       · simp at hg))
     rw [← HP.out] at hfr
     obtain ⟨oL,cL,gL,rfl,hL1,hL2,hL3⟩:=zan h1.pk.row
     have l1:=h1.o1.cell
     have z1:=h1.o1.lt
     have l2:=h1.o2.cell
     have f2:=h1.o2.free
     have z2:=h1.o2.lt
     have key:=And.intro (zb1 h1.o2 (.int .i64 (A 0)) (.int .i64 (A 1)) (.int .i64 (A 2)) (.int .i64 (A 3)) (.int .i64 (A 4)) (.int .i64 (A 5)) (.int .i64 (A 6)) (.int .i64 (A 7)) (.slice oL (grpF F ns).length cL)) (And.intro (zbj (b:=w.heap.size + 1) h1.bel (by omega) (.int .i64 (A 0)) (.int .i64 (A 1)) (.int .i64 (A 2)) (.int .i64 (A 3)) (.int .i64 (A 4)) (.int .i64 (A 5)) (.int .i64 (A 6)) (.int .i64 (A 7)) (.slice oL (grpF F ns).length cL)) (hfr (.int .i64 (A 0)) (.int .i64 (A 1)) (.int .i64 (A 2)) (.int .i64 (A 3)) (.int .i64 (A 4)) (.int .i64 (A 5)) (.int .i64 (A 6)) (.int .i64 (A 7)) (.slice oL (grpF F ns).length cL)))
     have KEY:=y34h key
     clear key hfr h1 hL1 hL2 hL3 HS HP
     generalize (grpF F ns).length = nr at *
     go_wp2_with fail
     clear l2 f2 z2 l1 z1
     have key:=KEY.out
     unfold st9 st8 at key
     revert key
     generalize World.setCell (World.setCell (World.setCell (World.setCell (World.setCell (World.setCell (World.setCell (World.setCell (World.setCell _ _ _) _ _) _ _) _ _) _ _) _ _) _ _) _ _) _ _ = WW
     rintro ⟨of,bf,ff⟩
     have lf:=of.cell
     refine bodyPost_ret (v:=knV A (.slice oL nr cL)) (by simp [results,Tryz.results81,go_sem,lf]) rfl ⟨_,rfl,ff,bf⟩
theorem zdu (K:Kn) (v:Value) (w:World) (hR:FrW w K.l v) (hlen:(zag K.l).length ≤ 10000) :
   Calls Tryz.prog 81 #[knV K.star v] w fun e w'=>∃ v',e = .returned (knV K.star v') ∧ FrFresh w' w.heap.size (zah K).l v' ∧ Below w.heap.size w w' :=
 (zff K v w hR hlen).mono fun _ _ ⟨v',he,hf,hb⟩=>⟨v',he,hf.fresh,hb⟩
end Go.Proofs.YthnllikalobmeaaGreat
