/- Joined: KPlain, KFrag, LocS, KCodeA. -/
import Derived.Test.YthnllikalobmeaaGreatK28
import Derived.Test.YthnllikalobmeaaGreatK20
import Derived.Test.YthnllikalobmeaaGreatK19
import Derived.Test.YthnllikalobmeaaGreatK03
import Derived.Test.YthnllikalobmeaaGreatK23
import Derived.Test.YthnllikalobmeaaGreatK12
import Derived.Test.YthnllikalobmeaaGreatK27
namespace Go.Proofs.YthnllikalobmeaaGreat
set_option linter.unusedVariables false
set_option linter.unusedSimpArgs false
set_option maxRecDepth 100000
set_option maxHeartbeats 8000000
open Go.RowKit Go.Maps
theorem y29h {p:Prop} (h:p):Hid p:=Lib.hid h
theorem zsp {A B:Nat → Int} (h:∀ j,j < 8 → A j = B j):vecV A = vecV B:=by
 simp only [vecV,h 0 (by omega),h 1 (by omega),h 2 (by omega),h 3 (by omega),h 4 (by omega),h 5 (by omega),h 6 (by omega),h 7 (by omega)]
def KRel (F:ByteArray → Nat → Int) (ns:List ByteArray) (nn:Nat) (w0:World) (base bm bp nc:Nat) (X Z:Array Value) (ids:List ByteArray) (raw:ByteArray → Nat → Int) (nv:Value) (lv iv:Value) (wr:World):Prop :=
 ∃ (k:Nat) (U:Nat → Value),k ≤ nn ∧ iv = .int .i64 k ∧ Hid (KP w0 base bm bp nc X Z ids raw ns nv ((grpF F (ns.take k)).map (·.v)) (grpF F (ns.take k)) U lv wr)
theorem ze1 (K:Kn) (v:Value) (w:World) (hR:FrW w K.l v) (hlen:(zaf K.l).length ≤ 10000) :
   Calls Tryz.prog 81 #[knV K.star v] w fun e w'=>∃ v',e = .returned (knV K.star v') ∧ FrOwn w' w.heap.size (zai K).l v' ∧ Below w.heap.size w w':=by
 have hN:=fun w' (hb:Below w.heap.size w w')=>zkz K.l v w' (hR.later hb (Nat.le_refl _)) hlen
 have HNL:=y29h (show (za9 K).length ≤ 10000 from Nat.le_trans (zic _) hlen)
 have HOK:Hid (∀ s ∈ za9 K,s.size ≤ maxLen):=by
   obtain ⟨U,oa,cap,b,o,_,hr⟩:=hR
   exact fun s hs=>fr_ok hr s (mem_all.1 hs)
 obtain ⟨ov,cv,rfl⟩:=hR.val
 have HP:=y29h (show (zai K).l = grpF (beyB K) (za9 K) from rfl)
 have HBZ:=y29h (show ∀ id,vecV (bzV (rawF K.l id) K.star) = vecV (beyB K id) from fun id=>zsp fun j hj=>by unfold bzV beyB;rw [if_pos hj])
 obtain ⟨A,l⟩:=K
 simp only at *
 generalize (zai ⟨A,l⟩).l = res at *
 have hbx:Below w.heap.size w ((w.alloc (.cells (knA A (.slice ov l.length cv)) 31)).alloc (.cells (knA zad (.slice none 0 0)) 31)) :=
   ((Below.refl _ _).alloc (Nat.le_refl _) _).alloc (by simp) _
 have N:=y29h (hN _ hbx)
 have hrise:=y29h (zjb (zaf l))
 have hmem:=y29h (fun s:ByteArray=>(mem_all (l:=zaf l) (x:=s)).symm)
 have e:za9 ⟨A,l⟩ = zbo (zaf l):=rfl
 rw [e] at HP HNL HOK
 clear e
 generalize zbo (zaf l) = ns at *
 have I1:=y29h (show Own _ _ _ _ ∧ Own _ _ _ _ ∧ Below _ _ _ from ⟨(Own.new w (knA A (.slice ov l.length cv)) 31).alloc (.cells (knA zad (.slice none 0 0)) 31),Own.newAt (w.alloc (.cells (knA A (.slice ov l.length cv)) 31)) (knA zad (.slice none 0 0)) 31 (b:=w.heap.size + 1) (by simp),hbx⟩)
 have hsz2:((w.alloc (.cells (knA A (.slice ov l.length cv)) 31)).alloc (.cells (knA zad (.slice none 0 0)) 31)).heap.size = w.heap.size + 2:=by simp
 rw [hsz2] at N
 have HZ2:=y29h hsz2
 clear hbx hN hsz2
 have hmm:=@run_makeMap Tryz.prog
 go_enter Tryz.func81,Tryz.ntmps81
 go_wp2_with (first
   | (go_at_call 127;refine N.out.mono ?_;rintro e w3 ⟨rfl,hcnt,hb3⟩)
   | (go_at_call 129;have hc4:=y29h (hcnt.later ((Below.refl w3.heap.size w3).alloc (Nat.le_refl _) (.map #[] 0)));refine (z1o (some (w.heap.size + 2)) (w3.alloc (.map #[] 0)) (w3.heap.size + 1) (by simp)).mono ?_;rintro e w4 ⟨rfl,rfl⟩)
   | (go_at_call 128;refine (zy3 hc4.out ns hrise.out hmem.out HNL.out (w3.heap.size + 1) (by simp)).mono ?_;rintro e w5 ⟨nv,rfl,hnv,hb5⟩;obtain ⟨on,cn,gn,rfl,hn1,hn2,hn3⟩:=zan hnv)
   | fail)
 have e4:((w3.alloc (.map #[] 0)).alloc (.cells #[.map (some (w.heap.size + 2))] 145)).heap.size = w3.heap.size + 1 + 1:=by simp
 have hb5':=hb5
 rw [← e4] at hb5'
 have hs3:=hcnt.lt
 have hs5:=hb5.size
 rw [e4] at hs5
 have S0:=y29h (show KP w w5.heap.size (w.heap.size + 2) w3.heap.size _ (knA A (.slice ov l.length cv)) (knA zad (.slice none 0 0)) (zaf l) (rawF l) ns (.slice on ns.length cn) [] [] (fun _=>.slice none 0 0) (.slice none 0 0) w5 from
   ⟨((((I1.out.1.below hb3 (by omega)).alloc _).alloc _).later hb5'),((((I1.out.2.1.below hb3 (by omega)).alloc _).alloc _).later hb5'),(hc4.out.later ((Below.refl _ _).alloc (Nat.le_refl _) _)).later hb5',((Pcs.made w3).later ((Below.refl _ _).alloc (Nat.le_refl _) _)).later hb5',hnv.mono (by omega),fun b hb=>(World.ownsRow.lt hnv b hb).2,PK.nil _ _ _,
     ((((I1.out.2.2.trans (hb3.mono (by omega))).alloc (by omega) _).alloc (by simp;omega) _).trans (hb5.mono (by omega))),by omega,⟨by omega,by omega⟩,by omega,Nat.le_refl _⟩)
 have hcap:=hn1
 have hmax:=hn2
 unfold maxLen at hmax
 have HN3:=y29h hn3
 clear hnv hb5 hb5' hb3 hcnt hc4 I1 N hn1 hn2 hn3 hR e4 hs3 hs5 HZ2 hmem hrise
 generalize w5.heap.size = base at *
 generalize w3.heap.size = bp at *
 generalize hF:beyB ⟨A,l⟩ = F at *
 generalize hbm:w.heap.size + 2 = bm at *
 generalize hnn:ns.length = nn at *
 have HNN:=y29h hnn
 clear hnn hF hbm
 go_wp2_with fail
 go_loopw [5,19] (fun lv iv wr=>KRel F ns nn w base bm bp (zaf l).length (knA A (.slice ov l.length cv)) (knA zad (.slice none 0 0)) (zaf l) (rawF l) (.slice on nn cn) lv iv wr) (fun _ iv _=>nn - (intOf iv).toNat)
 case atStart=>exact ⟨0,_,Nat.zero_le _,rfl,by simpa [grpF] using S0⟩
 case round =>
   clear S0
   obtain ⟨k,U,hk,rfl,HS⟩:=hrel
   by_cases hlt:k < nn
   · obtain ⟨id,hid⟩:∃ id,ns[k]? = some id:=⟨_,List.getElem?_eq_getElem (by rw [HNN.out];exact hlt)⟩
     obtain ⟨rfl,hgn⟩:=HN3.out (by omega)
     have c0:wr.cell? ⟨gn,k,none⟩ = some (.string id):=by
       have h:=HS.out.nm
       unfold OwnT at h
       rw [HNN.out] at h
       rw [h.cellAt k (by omega)]
       simp [txC,hid]
     have zg:gn < wr.heap.size:=(World.ownsRow.lt HS.out.nm gn rfl).2
     have hsz:=HOK.out id (List.mem_of_getElem? hid)
     have HG:=y29h (zn2 (F:=F) hid)
     have HK:=y29h (Nat.le_trans (zk0 F (ns.take k) []) (show [].length + (ns.take k).length ≤ k by rw [List.length_take];simp;omega))
     have HOL:(grpF F (ns.take k)).length ≤ k:=HK.out
     have HIDL:=y29h (show ∀ f ∈ grpF F (ns.take k),f.ids.length ≤ 10000 from fun f hf=>by
       have h1:=zls (F:=F) (ns.take k) [] 0 (fun g hg=>by simp at hg) f hf
       rw [List.length_take] at h1
       have:=HNL.out;have:=HNN.out
       omega)
     have HID:=y29h hid
     clear hid HK
     generalize grpF F (ns.take k) = o at *
     have hlk:=HS.out.cnt.look hsz
     have l1:=HS.out.o1.cell
     have z1:=HS.out.o1.lt
     have CB:∀ w',Hid (Calls Tryz.prog 130 #[vecV (rawF l id),vecV A] w' fun e w''=>e = .returned (vecV (F id)) ∧ Below w'.heap.size w' w''):=fun w'=>y29h (by rw [← HBZ.out id];exact ziz (rawF l id) A w')
     have HSZ:=y29h hsz
     obtain ⟨oL,cL,gL,rfl,hL1,hL2,hL3⟩:=zan HS.out.pk.row
     have HL3:=y29h hL3
     unfold maxLen at hL2
     generalize hno:o.length = no at *
     have HNO:=y29h hno
     clear hno hsz hL3
     go_upto_region 8 with (go_at_call 130;refine (CB _).out.mono ?_;rintro e w7 ⟨rfl,hb7⟩)
     have HV:=y29h (Own.new w7 (arr8 (F id)) 28)
     have HQ:=y29h ((HS.out.later hb7).alloc (.cells (arr8 (F id)) 28))
     have hbv:=y29h (Nat.le_trans HS.out.hw hb7.size)
     clear HS hlk l1 z1 CB c0 zg hb7
     generalize w7.heap.size = bv at *
     generalize w7.alloc (.cells (arr8 (F id)) 28) = wq at *
     have lv:=HV.out.cell
     have zv:=HV.out.lt
     have hz:=fun w'=>show (Op.equalIn 10000 28 (.agg #[.int .i64 (F id 0),.int .i64 (F id 1),.int .i64 (F id 2),.int .i64 (F id 3),.int .i64 (F id 4),.int .i64 (F id 5),.int .i64 (F id 6),.int .i64 (F id 7)]) (.agg #[.int .i64 0,.int .i64 0,.int .i64 0,.int .i64 0,.int .i64 0,.int .i64 0,.int .i64 0,.int .i64 0])).run Tryz.prog w' = .ok (eqV (F id) zad) w' from zec (F id) zad w'
     cases hzz:eqV (F id) zad
     · rw [hzz] at hz
       have HG2:=y29h (show grpF F (ns.take (k + 1)) = putF (F id) id o by rw [HG.out];unfold zaw;rw [if_neg (by rw [hzz];simp)])
       clear HG hzz
       go_upto_region 9 with fail
       go_cut [9,10] (fun s9 s10 wx=>∃ (a:Int) (b:Bool),s9 = .int .i64 a ∧ s10 = .bool b ∧ Hid (wq = wx) ∧ Hid ((b = true ∧ ∃ (i:Nat) (f:Fr),a = i ∧ o[i]? = some f ∧ putF (F id) id o = o.set i ⟨f.ids ++ [id],f.v⟩) ∨ (b = false ∧ ∀ (j:Nat) (g:Fr),j < o.length → o[j]? = some g → eqV g.v (F id) = false)))
       case first =>
         rcases znt (F id) o with ⟨a,f,hf,hn,he⟩ | hn
         · have hit:=HQ.out.pcs.hit (zir hf hn he).1 (zir hf hn he).2
           have hit:(Instr.lookup 147 (.map (some bp)) (.agg #[.int .i64 (F id 0),.int .i64 (F id 1),.int .i64 (F id 2),.int .i64 (F id 3),.int .i64 (F id 4),.int .i64 (F id 5),.int .i64 (F id 6),.int .i64 (F id 7)]) true).run Tryz.prog wq = .ok (.tuple #[.int .i64 a,.bool true]) wq:=hit
           have HPE:=y29h (zos (id:=id) hf hn he)
           have HF:=y29h hf
           clear hf hn he hz
           go_wp2_with fail
           go_meet
           exact ⟨a,true,rfl,rfl,y29h rfl,y29h (.inl ⟨rfl,a,f,rfl,HF.out,HPE.out⟩)⟩
         · have miss:=HQ.out.pcs.miss (zhs hn)
           have miss:(Instr.lookup 147 (.map (some bp)) (.agg #[.int .i64 (F id 0),.int .i64 (F id 1),.int .i64 (F id 2),.int .i64 (F id 3),.int .i64 (F id 4),.int .i64 (F id 5),.int .i64 (F id 6),.int .i64 (F id 7)]) true).run Tryz.prog wq = .ok (.tuple #[.int .i64 0,.bool false]) wq:=miss
           have HN0:=y29h hn
           clear hn hz
           go_wp2_with fail
           go_meet
           exact ⟨0,false,rfl,rfl,y29h rfl,y29h (.inr ⟨rfl,HN0.out⟩)⟩
       case rest =>
         obtain ⟨ai,bi,rfl,rfl,hwx,HB⟩:=hcut
         have ewx:=hwx.out
         subst ewx
         clear hwx
         go_upto_if 39 with fail
         go_cut [5,9] (fun s5 s9 wx=>∃ (a no' gL' cL':Nat),s5 = .slice (some ⟨gL',0,none⟩) no' cL' ∧ s9 = .int .i64 a ∧ Hid (∃ (o':List Fr) (U':Nat → Value) (f:Fr),o'.length = no' ∧ KP w base bm bp (zaf l).length (knA A (.slice ov l.length cv)) (knA zad (.slice none 0 0)) (zaf l) (rawF l) ns (.slice (some ⟨gn,0,none⟩) nn cn) (o'.map (·.v)) o' U' (.slice (some ⟨gL',0,none⟩) no' cL') wx ∧ o'[a]? = some f ∧ f.ids.length ≤ 10000 ∧ putF (F id) id o = o'.set a ⟨f.ids ++ [id],f.v⟩))
         case first =>
           rcases HB.out with ⟨rfl,a,f,rfl,hf,hpe⟩ | ⟨rfl,hn⟩
           · have HPE:=y29h hpe
             have HF:=y29h hf
             have hlt2:a < no:=by have:=posA hf;rw [HNO.out] at this;exact this
             obtain ⟨rfl,hgL⟩:=HL3.out (by omega)
             clear hf hpe hz
             go_wp2_with fail
             go_meet
             exact ⟨a,no,gL,cL,rfl,rfl,y29h ⟨o,U,f,HNO.out,HQ.out,HF.out,HIDL.out f (List.mem_of_getElem? HF.out),HPE.out⟩⟩
           · have HPE:=y29h (zlb (v:=F id) (id:=id) (o:=o) hn)
             obtain ⟨w8,hput,hp8,hg8⟩:=HQ.out.pcs.put (zhs hn)
             rw [List.length_map,HNO.out] at hput
             have hput:(Instr.mapUpdate 147 (.map (some bp)) (.agg #[.int .i64 (F id 0),.int .i64 (F id 1),.int .i64 (F id 2),.int .i64 (F id 3),.int .i64 (F id 4),.int .i64 (F id 5),.int .i64 (F id 6),.int .i64 (F id 7)]) (.int .i64 (no:Int))).run Tryz.prog wq = .ok () w8:=hput
             have H8:=y29h (HQ.out.put hp8 hg8)
             have V8:=HV.out.grown hg8 (by simp only [ne_eq,Option.some.injEq];have:=HQ.out.hp;have:=hbv.out;omega)
             have lv8:=V8.cell
             have zv8:=V8.lt
             clear hn hz hp8 hg8 V8
             have HSA:=y29h (H8.out.alloc (.cells #[.slice none 0 0,.int .i64 (F id 0),.int .i64 (F id 1),.int .i64 (F id 2),.int .i64 (F id 3),.int .i64 (F id 4),.int .i64 (F id 5),.int .i64 (F id 6),.int .i64 (F id 7)] 105))
             have hown:(w8.alloc (.cells #[.slice none 0 0,.int .i64 (F id 0),.int .i64 (F id 1),.int .i64 (F id 2),.int .i64 (F id 3),.int .i64 (F id 4),.int .i64 (F id 5),.int .i64 (F id 6),.int .i64 (F id 7)] 105)).ownsRow base 105 9 (.slice oL no cL) no (frCs U 0 o):=by
               have h:=HSA.out.pk.row
               rw [HNO.out] at h
               exact h
             obtain ⟨j0,hj,hy0,hy1,hy2⟩:=info_parts zcr
             have hnl:=HNL.out
             have hnn2:=HNN.out
             have t1:base ≤ (w8.alloc (.cells #[.slice none 0 0,.int .i64 (F id 0),.int .i64 (F id 1),.int .i64 (F id 2),.int .i64 (F id 3),.int .i64 (F id 4),.int .i64 (F id 5),.int .i64 (F id 6),.int .i64 (F id 7)] 105)).heap.size:=by have:=H8.out.hw;simp;omega
             have t2:(w8.alloc (.cells #[.slice none 0 0,.int .i64 (F id 0),.int .i64 (F id 1),.int .i64 (F id 2),.int .i64 (F id 3),.int .i64 (F id 4),.int .i64 (F id 5),.int .i64 (F id 6),.int .i64 (F id 7)] 105)).heap.size = w8.heap.size + 1:=by simp
             have t3:no + 1 ≤ maxLen:=by unfold maxLen;omega
             have t4:(no + 1) * 88 ≤ 140737488355328:=by omega
             clear hnn2
             go_upto_region 13 with fail
             go_wp2_with (at_builtin;refine wpList_append_lies _ (by rfl) _ _ _ (by rfl) base 105 j0 _ 9 88 Tryz.underlying29 hj hy0 hy1 hy2 rfl (by omega) (.slice oL no cL) no (frCs U 0 o) (by rfl) hown ⟨w8.heap.size,0,none⟩ 1 1 (fc ⟨[],F id⟩ (.slice none 0 0)) (by rfl) (by rfl) zxs (oneF _ rfl) (by omega) t3 t4 t1 (w8.heap.size + 1) t2 ?_;intro g cap' w9 hown9 hgrow hat9 hlt9;have R:=HSA.out.addF (F id) (by rw [HNO.out]) hown9 hgrow)
             go_meet
             exact ⟨no,no + 1,g,cap',rfl,rfl,y29h ⟨o ++ [(⟨[],F id⟩:Fr)],_,⟨[],F id⟩,by simp [HNO.out],by rw [List.map_append];exact R,by rw [← HNO.out];simp,by simp,by rw [HPE.out,HNO.out]⟩⟩
         case rest =>
           clear HB HQ HV hbv hz lv zv HL3 hL1 hL2 HIDL HNO
           obtain ⟨a,no',gL',cL',rfl,rfl,HC⟩:=hcut
           obtain ⟨o',U',f,hno',hs,hf,hil,hpe⟩:=HC.out
           clear HC
           generalize wc = wq at *
           have HQ:=y29h hs
           have HF:=y29h hf
           have HGK:=y29h (show grpF F (ns.take (k + 1)) = o'.set a ⟨f.ids ++ [id],f.v⟩ by rw [HG2.out,hpe])
           have hlt3:a < no':=by have:=posA hf;omega
           have HNO:=y29h hno'
           clear hs hf hpe HG2 hno'
           have hUT:=HQ.out.pk.ids a f HF.out
           obtain ⟨oU,cU,gU,hUa,hU1,hU2,hU3⟩:=zan hUT
           obtain ⟨d0,_⟩:=zbd (w:=wq) (o:=a * 9) (HQ.out.pk.at HF.out)
           rw [hUa] at d0
           have hown:(wq.alloc (.cells #[.string id] 9)).ownsRow base 9 1 (.slice oU f.ids.length cU) f.ids.length (txC f.ids):=by
             have h:=OwnT.alloc hUT (.cells #[.string id] 9)
             rw [hUa] at h
             exact h
           have HUA:=y29h hUa
           have zL7:gL' < wq.heap.size:=(World.ownsRow.lt HQ.out.pk.row gL' rfl).2
           have hidl:(f.ids.length + 1) * 16 ≤ 140737488355328:=by omega
           obtain ⟨i0,hi,hz0,hz1,hz2⟩:=info_parts zfg
           have HSA:=y29h (HQ.out.alloc (.cells #[.string id] 9))
           have t1:base ≤ (wq.alloc (.cells #[.string id] 9)).heap.size:=by have:=HQ.out.hw;simp;omega
           have t2:(wq.alloc (.cells #[.string id] 9)).heap.size = wq.heap.size + 1:=by simp
           have t3:f.ids.length + 1 ≤ maxLen:=by unfold maxLen;omega
           have hsl:no' ≤ cL':=by
             obtain ⟨oq,cq,gq,eq,h1,_⟩:=zan HQ.out.pk.row
             rw [HNO.out] at eq h1
             cases eq;exact h1
           clear hUa hUT hU1 hU2 hU3 HQ hil
           go_wp2_with (at_builtin;refine wpList_append_lies _ (by rfl) _ _ _ (by rfl) base 9 i0 _ 1 16 Tryz.underlying103 hi hz0 hz1 hz2 rfl (by omega) (.slice oU f.ids.length cU) f.ids.length (txC f.ids) (by rfl) hown ⟨wq.heap.size,0,none⟩ 1 1 [.string id] (by rfl) (by rfl) (zes (w:=wq)) (oneT id) (by omega) t3 hidl t1 (wq.heap.size + 1) t2 ?_;intro g cap' w3 hown3 hgrow hat3 hlt3;have R:=y29h (HSA.out.addT HF.out id rfl hown3 (by rw [HUA.out];exact hgrow) (by rw [HUA.out];simpa using hat3));have rw3:=World.ownsRow.kept HSA.out.pk.row hgrow (by rw [← HUA.out];exact zbw HSA.out.pk.row (HSA.out.pk.ids a f HF.out) (fun e=>zfd e.symm));have cw3:=zqj rw3 HF.out;have fw3:=zd0 rw3 (a * 9);clear rw3 hown3 hgrow hat3)
           go_roundw
           case rel=>exact ⟨k + 1,_,by omega,by go_num,y29h (by rw [HGK.out,zt4 (f':=⟨f.ids ++ [id],f.v⟩) HF.out rfl];exact R.out)⟩
           case measure=>simp [intOf];omega
     · rw [hzz] at hz
       have HG2:=y29h (show grpF F (ns.take (k + 1)) = o by rw [HG.out];unfold zaw;rw [if_pos hzz])
       clear HG hzz
       have HQ2:=y29h (show KP w base bm bp (zaf l).length (knA A (.slice ov l.length cv)) (knA zad (.slice none 0 0)) (zaf l) (rawF l) ns (.slice (some ⟨gn,0,none⟩) nn cn) ((grpF F (ns.take (k + 1))).map (·.v)) (grpF F (ns.take (k + 1))) U (.slice oL no cL) wq by rw [HG2.out];exact HQ.out)
       go_wp2_with fail
       go_roundw
       case rel=>exact ⟨k + 1,U,by omega,by go_num,HQ2⟩
       case measure=>simp [intOf];omega
   · have e:nn = k:=by omega
     subst e
     have h1:=HS.out
     rw [show ns.take nn = ns from List.take_of_length_le (by rw [HNN.out];omega)] at h1
     have hfr:=kp9o h1 (fun f hf s hs=>HOK.out s (by
       rcases zqm (F:=F) ns [] ⟨f,hf,hs⟩ with h | ⟨g,hg,_⟩
       · exact h
       · simp at hg))
     rw [← HP.out] at hfr
     obtain ⟨oL,cL,gL,rfl,hL1,hL2,hL3⟩:=zan h1.pk.row
     have l1:=h1.o1.cell
     have z1:=h1.o1.lt
     have l2:=h1.o2.cell
     have f2:=h1.o2.free
     have z2:=h1.o2.lt
     have key:=And.intro (zb6 h1.o2 (.int .i64 (A 0)) (.int .i64 (A 1)) (.int .i64 (A 2)) (.int .i64 (A 3)) (.int .i64 (A 4)) (.int .i64 (A 5)) (.int .i64 (A 6)) (.int .i64 (A 7)) (.slice oL (grpF F ns).length cL)) (And.intro (zbh (b:=w.heap.size + 1) h1.bel (by omega) (.int .i64 (A 0)) (.int .i64 (A 1)) (.int .i64 (A 2)) (.int .i64 (A 3)) (.int .i64 (A 4)) (.int .i64 (A 5)) (.int .i64 (A 6)) (.int .i64 (A 7)) (.slice oL (grpF F ns).length cL)) (hfr (.int .i64 (A 0)) (.int .i64 (A 1)) (.int .i64 (A 2)) (.int .i64 (A 3)) (.int .i64 (A 4)) (.int .i64 (A 5)) (.int .i64 (A 6)) (.int .i64 (A 7)) (.slice oL (grpF F ns).length cL)))
     have KEY:=y29h key
     clear key hfr h1 hL1 hL2 hL3 HS HP
     generalize (grpF F ns).length = nr at *
     go_wp2_with fail
     clear l2 f2 z2 l1 z1
     have key:=KEY.out
     unfold st9 st8 at key
     revert key
     generalize World.setCell (World.setCell (World.setCell (World.setCell (World.setCell (World.setCell (World.setCell (World.setCell (World.setCell _ _ _) _ _) _ _) _ _) _ _) _ _) _ _) _ _) _ _ = WW
     rintro ⟨of,bf,ff⟩
     have lf:=of.cell
     refine bodyPost_ret (v:=knV A (.slice oL nr cL)) (by simp [results,Tryz.results81,go_sem,lf]) rfl ⟨_,rfl,ff,bf⟩
theorem zdp (K:Kn) (v:Value) (w:World) (hR:FrW w K.l v) (hlen:(zaf K.l).length ≤ 10000) :
   Calls Tryz.prog 81 #[knV K.star v] w fun e w'=>∃ v',e = .returned (knV K.star v') ∧ FrFresh w' w.heap.size (zai K).l v' ∧ Below w.heap.size w w' :=
 (ze1 K v w hR hlen).mono fun _ _ ⟨v',he,hf,hb⟩=>⟨v',he,hf.fresh,hb⟩
end Go.Proofs.YthnllikalobmeaaGreat
namespace Go.Proofs.YthnllikalobmeaaGreat
set_option linter.unusedVariables false
set_option linter.unusedSimpArgs false
set_option maxRecDepth 100000
set_option maxHeartbeats 8000000
open Go.RowKit
abbrev frV (f:Fr) (u:Value):Value:=.agg #[u,.int .i64 (f.v 0),.int .i64 (f.v 1),.int .i64 (f.v 2),.int .i64 (f.v 3),.int .i64 (f.v 4),.int .i64 (f.v 5),.int .i64 (f.v 6),.int .i64 (f.v 7)]
theorem zhi {P:Fr → Bool} {l:List Fr} {k:Nat} {f:Fr} (hf:l[k]? = some f) (h:(l.take k).any P = false) (hs:P f = false):(l.take (k + 1)).any P = false:=by
 rw [zdg hf,List.any_append,h];simp [hs]
theorem ziw {P:Fr → Bool} {l:List Fr} {k:Nat} {f:Fr} (hf:l[k]? = some f) (hs:P f = true):l.any P = true:=List.any_eq_true.2 ⟨f,List.mem_of_getElem? hf,hs⟩
def zq7 (P:Fr → Bool) (l:List Fr) (n:Nat) (w0:World) (i:Value) (wr:World):Prop:=∃ k:Nat,k ≤ n ∧ i = .int .i64 k ∧ Hid ((l.take k).any P = false) ∧ Hid (Below w0.heap.size w0 wr)
theorem zn5 (P:Fr → Bool) (l:List Fr) (v:Value) (bx bi:Nat) (w:World) (hR:FrW w l v) (C:∀ w',Below w.heap.size w w' → ∀ (k:Nat) (f:Fr) (u:Value),l[k]? = some f → TxW w' f.ids u → Calls Tryz.prog 62 #[frV f u,.pointer (some ⟨bx,0,none⟩),.pointer (some ⟨bi,0,none⟩)] w' fun e w''=>e = .returned (.bool (P f)) ∧ Below w'.heap.size w' w'') :
   Calls Tryz.prog 108 #[v,.func (Fn.func 62) #[] #[.pointer (some ⟨bx,0,none⟩),.pointer (some ⟨bi,0,none⟩)]] w fun e w'=>∃ n:Int,e = .returned (.int .i64 n) ∧ decide (0 ≤ n) = l.any P ∧ Below w.heap.size w w':=by
 obtain ⟨U,oa,cap,b,o,rfl,hF⟩:=hR
 have h1:=hF.len
 have h2:=hF.max
 unfold maxLen at h2
 have HF:=y29h hF
 have HC:=y29h C
 clear hF C
 generalize hn:l.length = n at *
 have HN:=y29h hn
 clear hn
 go_enter Tryz.func108,Tryz.ntmps108
 go_wp2_with fail
 go_loopw [8] (fun i wr=>zq7 P l n w i wr) (fun i _=>n - (intOf i).toNat)
 case atStart=>exact ⟨0,Nat.zero_le _,rfl,by simp [Hid],y29h (Below.refl _ _)⟩
 case round =>
   obtain ⟨k,hk,rfl,HS,HB⟩:=hrel
   by_cases hlt:k < n
   · obtain ⟨f,hf⟩:∃ f,l[k]? = some f:=⟨_,List.getElem?_eq_getElem (by rw [HN.out];exact hlt)⟩
     obtain ⟨rfl,hb⟩:=HF.out.at0 (by rw [HN.out];omega)
     have FL:=HF.out.later HB.out (Nat.le_refl _)
     obtain ⟨c0,c1,c2,c3,c4,c5,c6,c7,c8⟩:=zbd (w:=wr) (fun j u hu=>FL.cell k f hf j u hu)
     have zb:b < wr.heap.size:=Nat.lt_of_lt_of_le hb HB.out.size
     have CC:=y29h (HC.out wr HB.out k f (U k) hf (FL.ids k f hf))
     have HX:=y29h hf
     obtain ⟨ou,cu,hU⟩:=(HF.out.ids k f hf).val
     rw [hU] at c0 CC
     clear FL hf hU
     cases hs:P f
     · rw [hs] at CC
       have HY:=y29h (zhi HX.out HS.out hs)
       clear HS
       go_wp2_with (go_at_call 62;refine CC.out.mono ?_;rintro e w' ⟨rfl,hb'⟩)
       go_roundw
       case rel=>exact ⟨k + 1,by omega,by go_num,HY,y29h (HB.out.trans (hb'.mono HB.out.size))⟩
       case measure=>simp [intOf];omega
     · rw [hs] at CC
       have HY:=y29h (ziw HX.out hs)
       clear HS
       go_wp2_with (go_at_call 62;refine CC.out.mono ?_;rintro e w' ⟨rfl,hb'⟩)
       go_ret
       exact ⟨_,rfl,by rw [HY.out];simp,HB.out.trans (hb'.mono HB.out.size)⟩
   · have h:=HS.out
     rw [List.take_of_length_le (by rw [HN.out];omega)] at h
     have HY:=y29h h
     clear h HS
     go_wp2_with fail
     go_ret
     exact ⟨_,rfl,by rw [HY.out];simp,HB.out⟩
theorem zju (P:Fr → Bool) (l:List Fr) (v:Value) (bx bi:Nat) (w:World) (hR:FrW w l v) (C:∀ w',Below w.heap.size w w' → ∀ (k:Nat) (f:Fr) (u:Value),l[k]? = some f → TxW w' f.ids u → Calls Tryz.prog 62 #[frV f u,.pointer (some ⟨bx,0,none⟩),.pointer (some ⟨bi,0,none⟩)] w' fun e w''=>e = .returned (.bool (P f)) ∧ Below w'.heap.size w' w'') :
   Calls Tryz.prog 61 #[v,.func (Fn.func 62) #[] #[.pointer (some ⟨bx,0,none⟩),.pointer (some ⟨bi,0,none⟩)]] w fun e w'=>e = .returned (.bool (l.any P)) ∧ Below w.heap.size w w':=by
 have D:=y29h (zn5 P l v bx bi w hR C)
 obtain ⟨oa,cap,rfl⟩:=hR.val
 clear hR C
 go_enter Tryz.func61,Tryz.ntmps61
 go_wp2_with (go_at_call 108;refine D.out.mono ?_;rintro e w' ⟨n,rfl,hn,hb⟩)
 go_ret
 first | exact ⟨zaa hn,hb⟩ | exact ⟨rfl,hb⟩
theorem zn4 (P:Fr → Bool) (l:List Fr) (v:Value) (w:World) (hR:FrW w l v) (C:∀ w',Below w.heap.size w w' → ∀ (k:Nat) (f:Fr) (u:Value),l[k]? = some f → TxW w' f.ids u → Calls Tryz.prog 79 #[frV f u] w' fun e w''=>e = .returned (.bool (P f)) ∧ Below w'.heap.size w' w'') :
   Calls Tryz.prog 108 #[v,.func (Fn.func 79) #[] #[]] w fun e w'=>∃ n:Int,e = .returned (.int .i64 n) ∧ decide (0 ≤ n) = l.any P ∧ Below w.heap.size w w':=by
 obtain ⟨U,oa,cap,b,o,rfl,hF⟩:=hR
 have h1:=hF.len
 have h2:=hF.max
 unfold maxLen at h2
 have HF:=y29h hF
 have HC:=y29h C
 clear hF C
 generalize hn:l.length = n at *
 have HN:=y29h hn
 clear hn
 go_enter Tryz.func108,Tryz.ntmps108
 go_wp2_with fail
 go_loopw [8] (fun i wr=>zq7 P l n w i wr) (fun i _=>n - (intOf i).toNat)
 case atStart=>exact ⟨0,Nat.zero_le _,rfl,by simp [Hid],y29h (Below.refl _ _)⟩
 case round =>
   obtain ⟨k,hk,rfl,HS,HB⟩:=hrel
   by_cases hlt:k < n
   · obtain ⟨f,hf⟩:∃ f,l[k]? = some f:=⟨_,List.getElem?_eq_getElem (by rw [HN.out];exact hlt)⟩
     obtain ⟨rfl,hb⟩:=HF.out.at0 (by rw [HN.out];omega)
     have FL:=HF.out.later HB.out (Nat.le_refl _)
     obtain ⟨c0,c1,c2,c3,c4,c5,c6,c7,c8⟩:=zbd (w:=wr) (fun j u hu=>FL.cell k f hf j u hu)
     have zb:b < wr.heap.size:=Nat.lt_of_lt_of_le hb HB.out.size
     have CC:=y29h (HC.out wr HB.out k f (U k) hf (FL.ids k f hf))
     have HX:=y29h hf
     obtain ⟨ou,cu,hU⟩:=(HF.out.ids k f hf).val
     rw [hU] at c0 CC
     clear FL hf hU
     cases hs:P f
     · rw [hs] at CC
       have HY:=y29h (zhi HX.out HS.out hs)
       clear HS
       go_wp2_with (go_at_call 79;refine CC.out.mono ?_;rintro e w' ⟨rfl,hb'⟩)
       go_roundw
       case rel=>exact ⟨k + 1,by omega,by go_num,HY,y29h (HB.out.trans (hb'.mono HB.out.size))⟩
       case measure=>simp [intOf];omega
     · rw [hs] at CC
       have HY:=y29h (ziw HX.out hs)
       clear HS
       go_wp2_with (go_at_call 79;refine CC.out.mono ?_;rintro e w' ⟨rfl,hb'⟩)
       go_ret
       exact ⟨_,rfl,by rw [HY.out];simp,HB.out.trans (hb'.mono HB.out.size)⟩
   · have h:=HS.out
     rw [List.take_of_length_le (by rw [HN.out];omega)] at h
     have HY:=y29h h
     clear h HS
     go_wp2_with fail
     go_ret
     exact ⟨_,rfl,by rw [HY.out];simp,HB.out⟩
theorem zjt (P:Fr → Bool) (l:List Fr) (v:Value) (w:World) (hR:FrW w l v) (C:∀ w',Below w.heap.size w w' → ∀ (k:Nat) (f:Fr) (u:Value),l[k]? = some f → TxW w' f.ids u → Calls Tryz.prog 79 #[frV f u] w' fun e w''=>e = .returned (.bool (P f)) ∧ Below w'.heap.size w' w'') :
   Calls Tryz.prog 61 #[v,.func (Fn.func 79) #[] #[]] w fun e w'=>e = .returned (.bool (l.any P)) ∧ Below w.heap.size w w':=by
 have D:=y29h (zn4 P l v w hR C)
 obtain ⟨oa,cap,rfl⟩:=hR.val
 clear hR C
 go_enter Tryz.func61,Tryz.ntmps61
 go_wp2_with (go_at_call 108;refine D.out.mono ?_;rintro e w' ⟨n,rfl,hn,hb⟩)
 go_ret
 first | exact ⟨zaa hn,hb⟩ | exact ⟨rfl,hb⟩
theorem zrq (f:Fr) (u:Value) (r c:Int) (id:ByteArray) (bx bi:Nat) (w:World) (hT:TxW w f.ids u) (hx:Own w bx #[.int .i64 r,.int .i64 c] 67) (hi:Own w bi #[.string id] 9) :
   Calls Tryz.prog 62 #[frV f u,.pointer (some ⟨bx,0,none⟩),.pointer (some ⟨bi,0,none⟩)] w fun e w'=>e = .returned (.bool (zfe id r c f)) ∧ Below w.heap.size w w':=by
 obtain ⟨ou,cu,rfl⟩:=hT.val
 have B0:Below w.heap.size w (w.alloc (.cells #[.slice ou f.ids.length cu,.int .i64 (f.v 0),.int .i64 (f.v 1),.int .i64 (f.v 2),.int .i64 (f.v 3),.int .i64 (f.v 4),.int .i64 (f.v 5),.int .i64 (f.v 6),.int .i64 (f.v 7)] 105)):=(Below.refl _ _).alloc (Nat.le_refl _) _
 have G1:=y29h (Own.new w #[.slice ou f.ids.length cu,.int .i64 (f.v 0),.int .i64 (f.v 1),.int .i64 (f.v 2),.int .i64 (f.v 3),.int .i64 (f.v 4),.int .i64 (f.v 5),.int .i64 (f.v 6),.int .i64 (f.v 7)] 105)
 have lx:=(hx.later B0).cell
 have zx:=(hx.later B0).lt
 have l1:=G1.out.cell
 have z1:=G1.out.lt
 have CH:=y29h (zh7 f.v r c (w.alloc (.cells #[.slice ou f.ids.length cu,.int .i64 (f.v 0),.int .i64 (f.v 1),.int .i64 (f.v 2),.int .i64 (f.v 3),.int .i64 (f.v 4),.int .i64 (f.v 5),.int .i64 (f.v 6),.int .i64 (f.v 7)] 105)))
 have HB0:=y29h B0
 have HI:=y29h (hi.later B0)
 have HT:=y29h (hT.later B0 (Nat.le_refl _))
 have e:zfe id r c f = (hasV f.v r c && za7 f.ids id):=by unfold zfe;rw [Bool.and_comm]
 rw [e]
 clear e B0 hT hx hi
 cases hh:hasV f.v r c
 · rw [hh] at CH
   go_enter Tryz.func62,Tryz.ntmps62
   go_wp2_with (go_at_call 60;refine CH.out.mono ?_;rintro e w3 ⟨rfl,hb3⟩)
   go_ret
   exact ⟨rfl,HB0.out.trans (hb3.mono HB0.out.size)⟩
 · rw [hh] at CH
   rw [Bool.true_and]
   go_enter Tryz.func62,Tryz.ntmps62
   go_wp2_with (first
     | (go_at_call 60;refine CH.out.mono ?_;rintro e w3 ⟨rfl,hb3⟩;have l13:=(G1.out.later hb3).cell;have z13:=(G1.out.later hb3).lt;have li3:=(HI.out.later hb3).cell;have zi3:=(HI.out.later hb3).lt;have HT3:=y29h (zjw f.ids _ id w3 (HT.out.later hb3 (Nat.le_refl _))))
     | (go_at_call 63;refine HT3.out.mono ?_;rintro e w4 ⟨rfl,rfl⟩)
     | fail)
   go_ret
   exact ⟨rfl,HB0.out.trans (hb3.mono HB0.out.size)⟩
def oddB (f:Fr):Bool:=!mayV f.v || f.ids.any fun s=>!zaz s
theorem zue (f:Fr) (u:Value) (w:World) (hT:TxW w f.ids u) :
   Calls Tryz.prog 79 #[frV f u] w fun e w'=>e = .returned (.bool (oddB f)) ∧ Below w.heap.size w w':=by
 obtain ⟨ou,cu,rfl⟩:=hT.val
 have B0:Below w.heap.size w (w.alloc (.cells #[.slice ou f.ids.length cu,.int .i64 (f.v 0),.int .i64 (f.v 1),.int .i64 (f.v 2),.int .i64 (f.v 3),.int .i64 (f.v 4),.int .i64 (f.v 5),.int .i64 (f.v 6),.int .i64 (f.v 7)] 105)):=(Below.refl _ _).alloc (Nat.le_refl _) _
 have G1:=y29h (Own.new w #[.slice ou f.ids.length cu,.int .i64 (f.v 0),.int .i64 (f.v 1),.int .i64 (f.v 2),.int .i64 (f.v 3),.int .i64 (f.v 4),.int .i64 (f.v 5),.int .i64 (f.v 6),.int .i64 (f.v 7)] 105)
 have l1:=G1.out.cell
 have z1:=G1.out.lt
 have CH:=y29h (zh8 f.v (w.alloc (.cells #[.slice ou f.ids.length cu,.int .i64 (f.v 0),.int .i64 (f.v 1),.int .i64 (f.v 2),.int .i64 (f.v 3),.int .i64 (f.v 4),.int .i64 (f.v 5),.int .i64 (f.v 6),.int .i64 (f.v 7)] 105)))
 have HB0:=y29h B0
 have HT:=y29h (hT.later B0 (Nat.le_refl _))
 unfold oddB
 clear B0 hT
 cases hh:mayV f.v
 · rw [hh] at CH
   go_enter Tryz.func79,Tryz.ntmps79
   go_wp2_with (go_at_call 78;refine CH.out.mono ?_;rintro e w3 ⟨rfl,hb3⟩)
   go_ret
   exact ⟨rfl,HB0.out.trans (hb3.mono HB0.out.size)⟩
 · rw [hh] at CH
   rw [Bool.not_true,Bool.false_or]
   go_enter Tryz.func79,Tryz.ntmps79
   go_wp2_with (first
     | (go_at_call 78;refine CH.out.mono ?_;rintro e w3 ⟨rfl,hb3⟩;have l13:=(G1.out.later hb3).cell;have z13:=(G1.out.later hb3).lt;have HT3:=y29h (zjv f.ids _ w3 (HT.out.later hb3 (Nat.le_refl _))))
     | (go_at_call 122;refine HT3.out.mono ?_;rintro e w4 ⟨rfl,rfl⟩)
     | fail)
   go_ret
   exact ⟨rfl,HB0.out.trans (hb3.mono HB0.out.size)⟩
theorem zmm (f g:Fr) (u t:Value) (w:World) (hT:TxW w f.ids u) (hM:TxW w g.ids t) :
   Calls Tryz.prog 125 #[frV f u,frV g t] w fun e w'=>e = .returned (.bool (eqFr f g)) ∧ Below w.heap.size w w':=by
 obtain ⟨ou,cu,rfl⟩:=hT.val
 obtain ⟨ot,ct,rfl⟩:=hM.val
 have B0:Below w.heap.size w ((w.alloc (.cells #[.slice ou f.ids.length cu,.int .i64 (f.v 0),.int .i64 (f.v 1),.int .i64 (f.v 2),.int .i64 (f.v 3),.int .i64 (f.v 4),.int .i64 (f.v 5),.int .i64 (f.v 6),.int .i64 (f.v 7)] 105)).alloc (.cells #[.slice ot g.ids.length ct,.int .i64 (g.v 0),.int .i64 (g.v 1),.int .i64 (g.v 2),.int .i64 (g.v 3),.int .i64 (g.v 4),.int .i64 (g.v 5),.int .i64 (g.v 6),.int .i64 (g.v 7)] 105)):=((Below.refl _ _).alloc (Nat.le_refl _) _).alloc (by simp) _
 have G1:=y29h ((Own.new w #[.slice ou f.ids.length cu,.int .i64 (f.v 0),.int .i64 (f.v 1),.int .i64 (f.v 2),.int .i64 (f.v 3),.int .i64 (f.v 4),.int .i64 (f.v 5),.int .i64 (f.v 6),.int .i64 (f.v 7)] 105).alloc (.cells #[.slice ot g.ids.length ct,.int .i64 (g.v 0),.int .i64 (g.v 1),.int .i64 (g.v 2),.int .i64 (g.v 3),.int .i64 (g.v 4),.int .i64 (g.v 5),.int .i64 (g.v 6),.int .i64 (g.v 7)] 105))
 have G2:=y29h (Own.newAt (w.alloc (.cells #[.slice ou f.ids.length cu,.int .i64 (f.v 0),.int .i64 (f.v 1),.int .i64 (f.v 2),.int .i64 (f.v 3),.int .i64 (f.v 4),.int .i64 (f.v 5),.int .i64 (f.v 6),.int .i64 (f.v 7)] 105)) #[.slice ot g.ids.length ct,.int .i64 (g.v 0),.int .i64 (g.v 1),.int .i64 (g.v 2),.int .i64 (g.v 3),.int .i64 (g.v 4),.int .i64 (g.v 5),.int .i64 (g.v 6),.int .i64 (g.v 7)] 105 (b:=w.heap.size + 1) (by simp))
 have l1:=G1.out.cell
 have z1:=G1.out.lt
 have l2:=G2.out.cell
 have z2:=G2.out.lt
 have HB0:=y29h B0
 have CE:=y29h (zno f.ids g.ids _ _ _ (hT.later B0 (Nat.le_refl _)) (hM.later B0 (Nat.le_refl _)))
 have hq:=fun w'=>show (Op.equalIn 10000 28 (.agg #[.int .i64 (f.v 0),.int .i64 (f.v 1),.int .i64 (f.v 2),.int .i64 (f.v 3),.int .i64 (f.v 4),.int .i64 (f.v 5),.int .i64 (f.v 6),.int .i64 (f.v 7)]) (.agg #[.int .i64 (g.v 0),.int .i64 (g.v 1),.int .i64 (g.v 2),.int .i64 (g.v 3),.int .i64 (g.v 4),.int .i64 (g.v 5),.int .i64 (g.v 6),.int .i64 (g.v 7)])).run Tryz.prog w' = .ok (eqV f.v g.v) w' from zec f.v g.v w'
 unfold eqFr
 clear B0 hT hM
 cases hh:eqV f.v g.v
 · rw [hh] at hq
   go_enter Tryz.func125,Tryz.ntmps125
   go_wp2_with fail
   go_ret
   exact ⟨rfl,HB0.out⟩
 · rw [hh] at hq
   rw [Bool.true_and]
   go_enter Tryz.func125,Tryz.ntmps125
   go_wp2_with (go_at_call 126;refine CE.out.mono ?_;rintro e w3 ⟨rfl,hb3⟩)
   go_ret
   exact ⟨rfl,HB0.out.trans (hb3.mono HB0.out.size)⟩
theorem zj4:∀ {l m:List Fr},l.length = m.length → (∀ (j:Nat) (f g:Fr),l[j]? = some f → m[j]? = some g → eqFr f g = true) → zbs l m = true
 | [],[],_,_=>rfl
 | [],b :: m,h,_=>by simp at h
 | a :: l,[],h,_=>by simp at h
 | a :: l,b :: m,h,hh=>by
   rw [zbs,hh 0 a b rfl rfl,Bool.true_and]
   exact zj4 (by simpa using h) fun j f g hf hg=>hh (j + 1) f g (by simpa using hf) (by simpa using hg)
theorem zlu:∀ {l m:List Fr} {j:Nat} {f g:Fr},l[j]? = some f → m[j]? = some g → eqFr f g = false → zbs l m = false
 | [],m,j,f,g,h,_,_=>by simp at h
 | a :: l,[],j,f,g,_,h,_=>by simp at h
 | a :: l,b :: m,0,f,g,h,h',hq=>by
   simp at h h';subst h h'
   rw [zbs,hq,Bool.false_and]
 | a :: l,b :: m,j + 1,f,g,h,h',hq=>by
   rw [zbs,zlu (l:=l) (m:=m) (by simpa using h) (by simpa using h') hq,Bool.and_false]
theorem zj5:∀ {l m:List Fr},l.length ≠ m.length → zbs l m = false
 | [],[],h=>by simp at h
 | [],b :: m,_=>by simp [zbs]
 | a :: l,[],_=>by simp [zbs]
 | a :: l,b :: m,h=>by rw [zbs,zj5 (l:=l) (m:=m) (by simpa using h),Bool.and_false]
def z02 (l m:List Fr) (n:Nat) (w0:World) (i:Value) (wr:World):Prop:=∃ k:Nat,k ≤ n ∧ i = .int .i64 k ∧ Hid (∀ (j:Nat) (f g:Fr),j < k → l[j]? = some f → m[j]? = some g → eqFr f g = true) ∧ Hid (Below w0.heap.size w0 wr)
theorem znn (l m:List Fr) (v v':Value) (w:World) (hR:FrW w l v) (hM:FrW w m v') :
   Calls Tryz.prog 124 #[v,v',.func (Fn.func 125) #[] #[]] w fun e w'=>e = .returned (.bool (zbs l m)) ∧ Below w.heap.size w w':=by
 obtain ⟨U,oa,cap,b,o,rfl,hT⟩:=hR
 obtain ⟨V,oa',cap',b',o',rfl,hM⟩:=hM
 have h1:=hT.len
 have h2:=hT.max
 have h1':=hM.len
 have h2':=hM.max
 unfold maxLen at h2 h2'
 have HT:=y29h hT
 have HM:=y29h hM
 clear hT hM
 by_cases hl:l.length = m.length
 · rw [← hl] at h1' ⊢
   have HL:=y29h hl
   clear hl
   have hne:((l.length:Int) == (l.length:Int)) = true:=by simp
   generalize hn:l.length = n at *
   have HN:=y29h hn
   clear hn
   go_enter Tryz.func124,Tryz.ntmps124
   go_wp2_with fail
   go_loopw [17] (fun i wr=>z02 l m n w i wr) (fun i _=>n - (intOf i).toNat)
   case atStart=>exact ⟨0,Nat.zero_le _,rfl,y29h fun j f g hj=>absurd hj (by omega),y29h (Below.refl _ _)⟩
   case round =>
     obtain ⟨k,hk,rfl,HS,HB⟩:=hrel
     by_cases hlt:k < n
     · obtain ⟨f,hf⟩:∃ f,l[k]? = some f:=⟨_,List.getElem?_eq_getElem (by rw [HN.out];exact hlt)⟩
       obtain ⟨g,hg⟩:∃ g,m[k]? = some g:=⟨_,List.getElem?_eq_getElem (by rw [← HL.out];exact hlt)⟩
       obtain ⟨rfl,hb⟩:=HT.out.at0 (by rw [HN.out];omega)
       obtain ⟨rfl,hb'⟩:=HM.out.at0 (by rw [← HL.out];omega)
       have FL:=HT.out.later HB.out (Nat.le_refl _)
       obtain ⟨c0,c1,c2,c3,c4,c5,c6,c7,c8⟩:=zbd (w:=wr) (fun j u hu=>FL.cell k f hf j u hu)
       have GL:=HM.out.later HB.out (Nat.le_refl _)
       obtain ⟨d0,d1,d2,d3,d4,d5,d6,d7,d8⟩:=zbd (w:=wr) (fun j u hu=>GL.cell k g hg j u hu)
       have z0:b < wr.heap.size:=Nat.lt_of_lt_of_le hb HB.out.size
       have z1:b' < wr.heap.size:=Nat.lt_of_lt_of_le hb' HB.out.size
       have HX:=y29h hf
       have HY:=y29h hg
       obtain ⟨ou,cu,hU⟩:=(HT.out.ids k f hf).val
       obtain ⟨ot,ct,hV⟩:=(HM.out.ids k g hg).val
       have TU:=FL.ids k f hf
       have TV:=GL.ids k g hg
       rw [hU] at c0 TU
       rw [hV] at d0 TV
       have B2:Below wr.heap.size wr ((wr.alloc (.cells #[.slice ou f.ids.length cu,.int .i64 (f.v 0),.int .i64 (f.v 1),.int .i64 (f.v 2),.int .i64 (f.v 3),.int .i64 (f.v 4),.int .i64 (f.v 5),.int .i64 (f.v 6),.int .i64 (f.v 7)] 105)).alloc (.cells #[.slice ot g.ids.length ct,.int .i64 (g.v 0),.int .i64 (g.v 1),.int .i64 (g.v 2),.int .i64 (g.v 3),.int .i64 (g.v 4),.int .i64 (g.v 5),.int .i64 (g.v 6),.int .i64 (g.v 7)] 105)):=((Below.refl _ _).alloc (Nat.le_refl _) _).alloc (by simp) _
       have CC:=y29h (zmm f g _ _ _ (TU.later B2 (Nat.le_refl _)) (TV.later B2 (Nat.le_refl _)))
       have HB2:=y29h (HB.out.trans (B2.mono HB.out.size))
       have k0:(0:Int) ≤ (k:Int):=by omega
       have k1:(k:Int) < (n:Int):=by omega
       clear FL GL hf hg hU hV TU TV B2 hb hb'
       cases hs:eqFr f g
       · rw [hs] at CC
         have HF:=y29h (zlu HX.out HY.out hs)
         go_wp2_with (go_at_call 125;refine CC.out.mono ?_;rintro e w' ⟨rfl,hb'⟩)
         go_ret
         exact ⟨zaa HF.out.symm,HB2.out.trans (hb'.mono HB2.out.size)⟩
       · rw [hs] at CC
         have HF:=y29h (show ∀ (j:Nat) (p q:Fr),j < k + 1 → l[j]? = some p → m[j]? = some q → eqFr p q = true from fun j p q hj hp hq=>by
           by_cases e:j = k
           · subst e;rw [HX.out] at hp;rw [HY.out] at hq;cases hp;cases hq;exact hs
           · exact HS.out j p q (by omega) hp hq)
         go_wp2_with (go_at_call 125;refine CC.out.mono ?_;rintro e w' ⟨rfl,hb'⟩)
         go_roundw
         case rel=>exact ⟨k + 1,by omega,by go_num,HF,y29h (HB2.out.trans (hb'.mono HB2.out.size))⟩
         case measure=>simp [intOf];omega
     · have HF:=y29h (zj4 (l:=l) (m:=m) (by rw [HN.out];exact HL.out) fun j f g hf hg=>HS.out j f g (by have:=posA hf;rw [HN.out] at this;omega) hf hg)
       go_wp2_with fail
       go_ret
       exact ⟨zaa HF.out.symm,HB.out⟩
 · have HF:=y29h (zj5 hl)
   have hne:((l.length:Int) == (m.length:Int)) = false:=by simp;omega
   clear hl
   go_enter Tryz.func124,Tryz.ntmps124
   go_wp2_with fail
   go_ret
   exact ⟨zaa HF.out.symm,Below.refl _ _⟩
theorem zod (a c:Kn) (v v':Value) (w:World) (hR:FrW w a.l v) (hM:FrW w c.l v') :
   Calls Tryz.prog 80 #[knV a.star v,knV c.star v'] w fun e w'=>e = .returned (.bool (zby a c)) ∧ Below w.heap.size w w':=by
 obtain ⟨ou,cu,rfl⟩:=hR.val
 obtain ⟨ot,ct,rfl⟩:=hM.val
 unfold zby
 obtain ⟨A,l⟩:=a
 obtain ⟨B,m⟩:=c
 simp only at *
 have B0:Below w.heap.size w ((w.alloc (.cells (knA A (.slice ou l.length cu)) 31)).alloc (.cells (knA B (.slice ot m.length ct)) 31)):=((Below.refl _ _).alloc (Nat.le_refl _) _).alloc (by simp) _
 have G1:=y29h ((Own.new w (knA A (.slice ou l.length cu)) 31).alloc (.cells (knA B (.slice ot m.length ct)) 31))
 have G2:=y29h (Own.newAt (w.alloc (.cells (knA A (.slice ou l.length cu)) 31)) (knA B (.slice ot m.length ct)) 31 (b:=w.heap.size + 1) (by simp))
 have l1:=G1.out.cell
 have z1:=G1.out.lt
 have l2:=G2.out.cell
 have z2:=G2.out.lt
 have HB0:=y29h B0
 have CE:=y29h (znn l m _ _ _ (hR.later B0 (Nat.le_refl _)) (hM.later B0 (Nat.le_refl _)))
 have hq:=fun w'=>show (Op.equalIn 10000 28 (.agg #[.int .i64 (A 0),.int .i64 (A 1),.int .i64 (A 2),.int .i64 (A 3),.int .i64 (A 4),.int .i64 (A 5),.int .i64 (A 6),.int .i64 (A 7)]) (.agg #[.int .i64 (B 0),.int .i64 (B 1),.int .i64 (B 2),.int .i64 (B 3),.int .i64 (B 4),.int .i64 (B 5),.int .i64 (B 6),.int .i64 (B 7)])).run Tryz.prog w' = .ok (eqV A B) w' from zec A B w'
 clear B0 hR hM
 cases hh:eqV A B
 · rw [hh] at hq
   go_enter Tryz.func80,Tryz.ntmps80
   go_wp2_with fail
   go_ret
   exact ⟨rfl,HB0.out⟩
 · rw [hh] at hq
   rw [Bool.true_and]
   go_enter Tryz.func80,Tryz.ntmps80
   go_wp2_with (go_at_call 124;refine CE.out.mono ?_;rintro e w3 ⟨rfl,hb3⟩)
   go_ret
   exact ⟨rfl,HB0.out.trans (hb3.mono HB0.out.size)⟩
theorem zmn (K:Kn) (id:ByteArray) (r c:Int) (v:Value) (w:World) (hR:FrW w K.l v) (hid:id.size ≤ maxLen) :
   Calls Tryz.prog 28 #[knV K.star v,.string id,.agg #[.int .i64 r,.int .i64 c]] w fun e w'=>e = .returned (.bool (hasK K id r c)) ∧ Below w.heap.size w w':=by
 obtain ⟨ov,cv,rfl⟩:=hR.val
 unfold hasK
 obtain ⟨A,l⟩:=K
 simp only at *
 have G1:=y29h (((Own.new w (knA A (.slice ov l.length cv)) 31).alloc (.cells #[.string id] 9)).alloc (.cells #[.int .i64 r,.int .i64 c] 67))
 have G2:=y29h ((Own.newAt (w.alloc (.cells (knA A (.slice ov l.length cv)) 31)) #[.string id] 9 (b:=w.heap.size + 1) (by simp)).alloc (.cells #[.int .i64 r,.int .i64 c] 67))
 have G3:=y29h (Own.newAt ((w.alloc (.cells (knA A (.slice ov l.length cv)) 31)).alloc (.cells #[.string id] 9)) #[.int .i64 r,.int .i64 c] 67 (b:=w.heap.size + 1 + 1) (by simp))
 have HB0:=y29h ((((Below.refl w.heap.size w).alloc (Nat.le_refl _) (.cells (knA A (.slice ov l.length cv)) 31)).alloc (by simp) (.cells #[.string id] 9)).alloc (by simp;omega) (.cells #[.int .i64 r,.int .i64 c] 67))
 have HR:=y29h (hR.later HB0.out (Nat.le_refl _))
 have CH:=fun w'=>y29h (zh7 A r c w')
 clear hR
 cases hh:hasV A r c
 · have CD:=fun w' h=>y29h (zju (zfe id r c) l (.slice ov l.length cv) (w.heap.size + 1 + 1) (w.heap.size + 1) w' h)
   rw [Bool.false_or]
   go_enter Tryz.func28,Tryz.ntmps28
   go_upto_region 1 with fail
   generalize ((w.alloc (.cells (knA A (.slice ov l.length cv)) 31)).alloc (.cells #[.string id] 9)).alloc (.cells #[.int .i64 r,.int .i64 c] 67) = W at *
   have l1:=G1.out.cell
   have z1:=G1.out.lt
   have l3:=G3.out.cell
   have z3:=G3.out.lt
   have CH1:=CH W
   rw [hh] at CH1
   go_wp2_with (first
     | (go_at_call 60;refine CH1.out.mono ?_;rintro e w3 ⟨rfl,hb3⟩;have l13:=(G1.out.later hb3).cell;have z13:=(G1.out.later hb3).lt;have D:=y29h ((CD w3 (HR.out.later hb3 (Nat.le_refl _))).out fun w' hb' k f u hf hu=>zrq f u r c id _ _ w' hu ((G3.out.later hb3).later hb') ((G2.out.later hb3).later hb')))
     | (go_at_call 61;refine D.out.mono ?_;rintro e w4 ⟨rfl,hb4⟩)
     | fail)
   go_ret
   exact ⟨rfl,HB0.out.trans ((hb3.trans (hb4.mono hb3.size)).mono HB0.out.size)⟩
 · rw [Bool.true_or]
   go_enter Tryz.func28,Tryz.ntmps28
   go_upto_region 1 with fail
   generalize ((w.alloc (.cells (knA A (.slice ov l.length cv)) 31)).alloc (.cells #[.string id] 9)).alloc (.cells #[.int .i64 r,.int .i64 c] 67) = W at *
   have l1:=G1.out.cell
   have z1:=G1.out.lt
   have l3:=G3.out.cell
   have z3:=G3.out.lt
   have CH1:=CH W
   rw [hh] at CH1
   go_wp2_with (go_at_call 60;refine CH1.out.mono ?_;rintro e w3 ⟨rfl,hb3⟩)
   go_ret
   exact ⟨rfl,HB0.out.trans (hb3.mono HB0.out.size)⟩
end Go.Proofs.YthnllikalobmeaaGreat
