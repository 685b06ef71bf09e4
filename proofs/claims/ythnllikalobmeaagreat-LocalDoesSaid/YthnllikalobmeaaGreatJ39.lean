/- Joined: LocNew, LocRd, LocV, RegE. -/
import Derived.Test.YthnllikalobmeaaGreatJ36
import Derived.Test.YthnllikalobmeaaGreatJ38
import Derived.Test.YthnllikalobmeaaGreatJ31
import Derived.Test.YthnllikalobmeaaGreatJ37
import Derived.Test.YthnllikalobmeaaGreatJ18
import Derived.Lib.SliceRun
import Derived.Test.YthnllikalobmeaaGreatJ32
import Derived.Test.YthnllikalobmeaaGreatJ23
import Derived.Test.YthnllikalobmeaaGreatJ24
import Derived.Deep.RegionHeld
namespace Go.Proofs.YthnllikalobmeaaGreat
set_option linter.unusedVariables false
set_option linter.unusedSimpArgs false
set_option maxRecDepth 100000
set_option maxHeartbeats 8000000
open Go.RowKit
theorem y39h {p:Prop} (h:p):Hid p:=Lib.hid h
theorem zlr (r:Int) (f:Pr) (fv:Value) (w:World) (hL:LP w f fv) (hf:f.size ≤ 60) :
   Calls Tryz.prog 13 #[.int .i64 r,prV f fv] w (Told errI f fv zf7 (.slice none 0 0) (.slice none 0 0) (.slice none 0 0) (newT r f) (newE r f) w):=by
 obtain ⟨oq,cq,rfl⟩:=zal hL
 have OP:=y39h ((Own.new w #[.int .i64 f.op,.string f.text,.int .i64 f.n,.complex .f64 f.x f.y,.slice oq f.kids.length cq] 40).alloc (.cells stZ.toArray 43))
 have O4:=y39h (Own.newAt (w.alloc (.cells #[.int .i64 f.op,.string f.text,.int .i64 f.n,.complex .f64 f.x f.y,.slice oq f.kids.length cq] 40)) stZ.toArray 43 (b:=w.heap.size + 1) (by simp))
 have BE:=y39h (((Below.refl w.heap.size w).alloc (Nat.le_refl _) (.cells #[.int .i64 f.op,.string f.text,.int .i64 f.n,.complex .f64 f.x f.y,.slice oq f.kids.length cq] 40)).alloc (by simp) (.cells stZ.toArray 43))
 have LF:=y39h ((hL.atAlloc (.cells #[.int .i64 f.op,.string f.text,.int .i64 f.n,.complex .f64 f.x f.y,.slice oq f.kids.length cq] 40)).atAlloc (.cells stZ.toArray 43))
 clear hL
 have W1:=fun w'=>y39h (zcj r 1 8 w')
 have W2:=fun w' h=>y39h (zdh f (.slice oq f.kids.length cq) w' h)
 have W3:=fun w' h=>y39h (zdv f (.slice oq f.kids.length cq) w' h (by omega))
 have HE:=y39h (show zc9 r f = (Pr.mayB f && inB r 1 8) from rfl)
 generalize Pr.mayB f = x1 at *
 generalize inB r 1 8 = x2 at *
 have l0:=OP.out.cell
 have z0:=OP.out.lt
 cases x2
 · rw [Bool.and_false] at HE
   have EE:=y39h (show newT r f = zf7 ∧ newE r f = 1 from by unfold newT newE;rw [HE.out];exact ⟨rfl,rfl⟩)
   go_enter Tryz.func13,Tryz.ntmps13
   go_wp2_with fail
   refine (W1 _).out.mono ?_
   rintro e w1 ⟨rfl,rfl⟩
   have HK:=y39h (And.intro (O4.out.sets stZ (by rfl)) (zab (b:=w.heap.size + 1) (Nat.le_succ _) stZ 0 BE.out))
   go_wp2_with (first | (refine wpList_store_mid (by rfl) 43 _ _ (by rfl) (w.heap.size + 1) 0 stZ.toArray (by rfl) (by rfl) (O4.out.there (by rfl)) (by kernel_rfl) (by simp [Value.oneCell']) ?_) | fail)
   revert HK
   generalize World.setCells _ _ _ _ = WW
   intro HK
   refine zae (by rfl) (by rfl) (by rfl) HK.out.1.range Tryz.underlying43 (by rfl) (by kernel_rfl) rfl ?_
   rw [EE.out.1,EE.out.2]
   exact ⟨_,_,_,_,rfl,⟨.inr (zg5 (by decide)),.inl ⟨rfl,rfl⟩,.inl ⟨rfl,rfl⟩,.inl ⟨rfl,rfl⟩⟩,HK.out.2⟩
 · cases x1
   · rw [Bool.and_true] at HE
     have EE:=y39h (show newT r f = zf7 ∧ newE r f = 1 from by unfold newT newE;rw [HE.out];exact ⟨rfl,rfl⟩)
     go_enter Tryz.func13,Tryz.ntmps13
     go_wp2_with fail
     refine (W1 _).out.mono ?_
     rintro e w1 ⟨rfl,rfl⟩
     go_wp2_with fail
     refine (W2 _ LF.out).out.mono ?_
     rintro e w2 ⟨rfl,hb⟩
     clear l0 z0
     replace BE:=y39h (BE.out.trans (hb.mono BE.out.size))
     replace OP:=y39h (OP.out.later hb)
     replace O4:=y39h (O4.out.later hb)
     replace LF:=y39h (LF.out.later hb (Nat.le_refl _))
     clear hb
     have l0:=OP.out.cell
     have z0:=OP.out.lt
     have HK:=y39h (And.intro (O4.out.sets stZ (by rfl)) (zab (b:=w.heap.size + 1) (Nat.le_succ _) stZ 0 BE.out))
     go_wp2_with (first | (refine wpList_store_mid (by rfl) 43 _ _ (by rfl) (w.heap.size + 1) 0 stZ.toArray (by rfl) (by rfl) (O4.out.there (by rfl)) (by kernel_rfl) (by simp [Value.oneCell']) ?_) | fail)
     revert HK
     generalize World.setCells _ _ _ _ = WW
     intro HK
     refine zae (by rfl) (by rfl) (by rfl) HK.out.1.range Tryz.underlying43 (by rfl) (by kernel_rfl) rfl ?_
     rw [EE.out.1,EE.out.2]
     exact ⟨_,_,_,_,rfl,⟨.inr (zg5 (by decide)),.inl ⟨rfl,rfl⟩,.inl ⟨rfl,rfl⟩,.inl ⟨rfl,rfl⟩⟩,HK.out.2⟩
   · rw [Bool.and_true] at HE
     have EE:=y39h (show newT r f = newS r f ∧ newE r f = 0 from by unfold newT newE;rw [HE.out];exact ⟨rfl,rfl⟩)
     go_enter Tryz.func13,Tryz.ntmps13
     go_wp2_with fail
     refine (W1 _).out.mono ?_
     rintro e w1 ⟨rfl,rfl⟩
     go_wp2_with fail
     refine (W2 _ LF.out).out.mono ?_
     rintro e w2 ⟨rfl,hb⟩
     clear l0 z0
     replace BE:=y39h (BE.out.trans (hb.mono BE.out.size))
     replace OP:=y39h (OP.out.later hb)
     replace O4:=y39h (O4.out.later hb)
     replace LF:=y39h (LF.out.later hb (Nat.le_refl _))
     clear hb
     have l0:=OP.out.cell
     have z0:=OP.out.lt
     go_wp2_with fail
     refine (W3 _ LF.out).out.mono ?_
     rintro e w3 ⟨v3,rfl,hl,hb⟩
     obtain ⟨o3,c3,rfl⟩:=zal hl.lp
     have L3:=y39h (hl.mono' (B':=w.heap.size + 2) (by have:=O4.out.lt;omega))
     clear l0 z0
     replace BE:=y39h (BE.out.trans (hb.mono BE.out.size))
     replace OP:=y39h (OP.out.later hb)
     replace O4:=y39h (O4.out.later hb)
     replace LF:=y39h (LF.out.later hb (Nat.le_refl _))
     clear hb hl
     have HK:=y39h (And.intro (O4.out.sets (stN r f (.slice o3 f.kids.length c3)) (by rfl)) (zab (b:=w.heap.size + 1) (Nat.le_succ _) (stN r f (.slice o3 f.kids.length c3)) 0 BE.out))
     have HL:=y39h ((L3.out.setsAt (b:=w.heap.size + 1) (by omega) (stN r f (.slice o3 f.kids.length c3)) 0).mono' (B':=w.heap.size) (by omega))
     go_wp2_with (first | (refine wpList_store_mid (by rfl) 43 _ _ (by rfl) (w.heap.size + 1) 0 (stN r f (.slice o3 f.kids.length c3)).toArray (by rfl) (by rfl) (O4.out.there (by rfl)) (by kernel_rfl) (by simp [Value.oneCell']) ?_) | fail)
     revert HK HL
     generalize World.setCells _ _ _ _ = WW
     intro HK HL
     refine zae (by rfl) (by rfl) (by rfl) HK.out.1.range Tryz.underlying43 (by rfl) (by kernel_rfl) rfl ?_
     rw [EE.out.1,EE.out.2]
     exact ⟨_,_,_,_,rfl,⟨.inr HL.out,.inl ⟨rfl,rfl⟩,.inl ⟨rfl,rfl⟩,.inl ⟨rfl,rfl⟩⟩,HK.out.2⟩
theorem zno (w:World) (t e ty:TypeId) (z:Value) (ht:Tryz.prog.underlying t = some (.slice e)) (hv:∀ w,(zeroValue e).run Tryz.prog w = .ok z w) (size:Nat) (hsz:z.cells.size = size) (h0:0 < size) (h1:∀ v ∈ z.cells.toList,v.oneCell' = true) (b o n c:Nat) (hn:0 < n)
   (hc:∀ j,j < n * size → (w.cell? ⟨b,o + j,none⟩).isSome = true) (hf:∀ j,j < n * size → w.frozen? ⟨b,o + j,none⟩ = false) :
   ∃ zs:List Value,zs.length = n * size ∧ ∀ ty,(Builtin.clear_ #[t] ty #[.slice (some ⟨b,o,none⟩) n c]).run Tryz.prog w = .ok (.tuple #[]) (w.setCells b o zs):=by
 have hl:(Builtin.zeroCells z.cells n).toList.length = n * size:=by simp [Builtin.zeroCells,hsz]
 refine ⟨(Builtin.zeroCells z.cells n).toList,hl,fun ty=>?_⟩
 have h2:∀ v ∈ (Builtin.zeroCells z.cells n).toList,v.oneCell' = true:=by
   intro v hv'
   unfold Builtin.zeroCells at hv'
   simp only [Array.toList_map,List.mem_map] at hv'
   obtain ⟨i,_,rfl⟩:=hv'
   refine h1 _ ?_
   have:i % z.cells.size < z.cells.size:=Nat.mod_lt _ (by omega)
   rw [getElem!_pos z.cells _ this]
   exact Array.getElem_mem_toList this
 have hst:=run_storeCells_cells (P:=Tryz.prog) b o (Builtin.zeroCells z.cells n).toList 0 w (by rw [hl];simpa using hc) (by rw [hl];simpa using hf) h2
 simp only [Nat.add_zero] at hst
 obtain ⟨m,rfl⟩:∃ m,n = m + 1:=⟨n - 1,by omega⟩
 simp [Builtin.clear_,run_underlying ht,hv,hst]
theorem zxx (xs:List Value) (vs:List Value):∀ (c:List Value) (o:Nat),setL (xs ++ c) (xs.length + o) vs = xs ++ setL c o vs:=by
 induction vs with
 | nil=>intro c o;rfl
 | cons v vs ih =>
   intro c o
   show setL ((xs ++ c).set (xs.length + o) v) (xs.length + o + 1) vs = _
   rw [List.set_append_right _ _ (by omega),show xs.length + o - xs.length = o by omega,Nat.add_assoc,ih]
   rfl
theorem zkc (x:Itm):∀ (m:List Itm) (i:Nat),i < m.length → setL (zas m) (i * 8) (ic x) = zas (m.set i x)
 | [],i,h=>by simp at h
 | a :: m,0,_=>rfl
 | a :: m,i + 1,h=>by
   have e:zas (a :: m) = ic a ++ zas m:=rfl
   rw [e,show (i + 1) * 8 = (ic a).length + i * 8 by show (i + 1) * 8 = 8 + i * 8;omega,zxx,zkc x m i (by simpa using h)]
   rfl
structure DfS (w:World) (B:Nat) (l:List Itm) (g cap n i j:Nat) (m:List Itm) (wr:World):Prop where
 len:m.length = n
 head:m.take i = (l.take j).filter fun x=>!x.d
 tail:m.drop j = l.drop j
 lt:i < j
 own:wr.ownsRow B 69 8 (.slice (some ⟨g,0,none⟩) n cap) n (zas m)
 gr:Below B w wr
def z1n (w:World) (B:Nat) (l:List Itm) (g cap n:Nat) (i j:Value) (wr:World):Prop :=
 ∃ (a b:Nat) (m:List Itm),i = .int .i64 a ∧ j = .int .i64 b ∧ b ≤ n ∧ Hid (DfS w B l g cap n a b m wr)
section
variable {w wr:World} {B:Nat} {l:List Itm} {g cap n i j:Nat} {m:List Itm}
theorem DfS.skip {w8:World} {x:Itm} (h:DfS w B l g cap n i j m wr) (hx:l[j]? = some x) (hd:x.d = true) (hb:Below wr.heap.size wr w8) (hB:B ≤ wr.heap.size):DfS w B l g cap n i (j + 1) m w8:=by
 refine ⟨h.len,?_,?_,by have:=h.lt;omega,zau h.own hb,h.gr.trans (hb.mono hB)⟩
 · rw [h.head,List.take_add_one,hx]
   simp [hd]
 · have:=congrArg (List.drop 1) h.tail
   simpa [List.drop_drop] using this
theorem DfS.keep {w8:World} {x:Itm} (h:DfS w B l g cap n i j m wr) (hl:l.length = n) (hx:l[j]? = some x) (hd:x.d = false) (hb:Below wr.heap.size wr w8) (hB:B ≤ wr.heap.size):DfS w B l g cap n (i + 1) (j + 1) (m.set i x) (w8.setCells g (i * 8) (ic x)):=by
 have hj:=zbs hx
 have hlt:=h.lt
 have hlen:=h.len
 have hg:=h.own.lt g rfl
 refine ⟨by rw [List.length_set];exact h.len,?_,?_,by omega,?_,?_⟩
 · have e1:(m.set i x).take (i + 1) = m.take i ++ [x]:=by
     rw [List.take_add_one,List.getElem?_set_self (by omega),List.take_set_of_le (Nat.le_refl _)]
     rfl
   rw [e1,h.head,List.take_add_one (l:=l),hx]
   simp [hd]
 · rw [List.drop_set_of_lt (by omega)]
   have:=congrArg (List.drop 1) h.tail
   simpa [List.drop_drop] using this
 · rw [← zkc x m i (by omega)]
   exact zjz _ _ (zau h.own hb) (by show i * 8 + 8 ≤ _;omega)
 · exact zab hg.1 _ _ (h.gr.trans (hb.mono hB))
theorem DfS.fin {zs:List Value} (h:DfS w B l g cap n i n m wr) (hl:l.length = n) (hok:∀ i ∈ l,i.id.size ≤ maxLen ∧ i.kd.size ≤ maxLen) (hz:zs.length = (n - i) * 8):Row 8 ic (wr.setCells g (i * 8) zs) (l.filter fun x=>!x.d) (.slice (some ⟨g,0,none⟩) i cap) ∧ Below B w (wr.setCells g (i * 8) zs):=by
 have hg:=h.own.lt g rfl
 have hlt:=h.lt
 have hlen:=h.len
 have hhead:m.take i = l.filter fun x=>!x.d:=by
   have:=h.head
   rw [List.take_of_length_le (l:=l) (by omega)] at this
   exact this
 have hli:(l.filter fun x=>!x.d).length = i:=by rw [← hhead,List.length_take];omega
 have hown:=zjz zs (i * 8) h.own (by rw [hz];omega)
 obtain ⟨_,_,_,e0,hle,hmx,_⟩:=zan h.own
 cases e0
 refine ⟨⟨_,cap,g,0,by rw [hli],⟨by omega,?_,fun _=>⟨rfl,(hown.lt g rfl).2⟩,fun k y hk a u hu=>?_,fun y hy=>hok y (List.mem_filter.1 hy).1⟩⟩,zab hg.1 _ _ h.gr⟩
 · exact hmx
 · have hki:k < i:=by rw [← hli];exact zbs hk
   have ha:a < 8:=(List.getElem?_eq_some_iff.1 hu).1
   have e1:m[k]? = some y:=by
     rw [← hhead,List.getElem?_take,if_pos hki] at hk
     exact hk
   rw [World.cell?_setCells_out g zs (i * 8) wr ⟨g,0 + k * 8 + a,none⟩ (fun _ _=>Or.inl (by show 0 + k * 8 + a < i * 8;omega)),Nat.zero_add,h.own.cellAt (k * 8 + a) (by omega),zex m k y e1 a ha]
   exact hu
end
theorem zgw (x:Itm) (w:World):Calls Tryz.prog 57 #[iV x] w fun e w'=>e = .returned (.bool x.d) ∧ Below w.heap.size w w':=by
 have BE:=y39h ((Below.refl w.heap.size w).alloc (Nat.le_refl _) (.cells (iA x) 69))
 go_enter Tryz.func57,Tryz.ntmps57
 go_wp2
 go_ret
 exact ⟨rfl,BE.out⟩
theorem zoh {l:List Itm} (h:l.any (fun x=>x.d) = false):l.filter (fun x=>!x.d) = l:=by
 rw [List.filter_eq_self]
 intro x hx
 have:=List.any_eq_false.1 h x hx
 simpa using this
theorem z1g:∀ w,(zeroValue 69).run Tryz.prog w = .ok (iV Itm.zero) w:=Tryz.zeroValue69
theorem zm6 (l:List Itm) (v:Value) (B:Nat) (w:World) (hO:OwnI w B l v) (hB:B ≤ w.heap.size) (hok:∀ i ∈ l,i.id.size ≤ maxLen ∧ i.kd.size ≤ maxLen) (hl:l.length ≤ 30000) :
   Calls Tryz.prog 55 #[v,.func (Fn.func 57) #[] #[]] w fun e w'=>∃ v',e = .returned v' ∧ Row 8 ic w' (l.filter fun x=>!x.d) v' ∧ Below B w w':=by
 have IX:=y39h (zkq (fun x=>x.d) l v w (hO.row hok) (fun w' _ x _=>zgw x w'))
 have HOK:=y39h hok
 have HO:=y39h hO
 obtain ⟨oa,cap,g0,rfl,h1,h2,hg⟩:=zan hO
 unfold maxLen at h2
 have HG:=y39h hg
 clear hO hok hg
 generalize hn:l.length = n at *
 have HN:=y39h hn
 clear hn
 go_enter Tryz.func55,Tryz.ntmps55
 go_wp2_with fail
 refine IX.out.mono ?_
 rintro e w1 ⟨nn,rfl,hf,hb⟩
 have HO1:=y39h (HO.out.later hb)
 have HB1:=y39h (hb.mono hB)
 have hs1:=hb.size
 clear IX HO hb
 rcases hf with ⟨k,x,hx,hp,rfl,hnn⟩ | ⟨rfl,hnn⟩
 · have hk:k < n:=by rw [← HN.out];exact zbs hx
   obtain ⟨rfl,hg1,hg2⟩:=HG.out (by omega)
   have hBw:B ≤ w1.heap.size:=by omega
   have D0:Hid (DfS w B l g0 cap n k (k + 1) l w1):=y39h ⟨HN.out,by
     rw [List.take_add_one,hx,List.filter_append,zoh hnn]
     have hp':x.d = true:=hp
     simp [hp'],rfl,by omega,by have:=HO1.out;unfold OwnI at this;rw [HN.out] at this;exact this,HB1.out⟩
   have e1:((k:Int) == -1) = false:=by rw [beq_eq_false_iff_ne];omega
   clear hx hp hnn HO1 HB1
   go_wp2_with fail
   go_loopw [5,6] (fun i j wr=>z1n w B l g0 cap n i j wr) (fun _ j _=>n - (intOf j).toNat)
   case atStart=>exact ⟨k,k + 1,l,rfl,by go_num,by omega,D0⟩
   case round =>
     clear D0 e1
     obtain ⟨i,j,m,rfl,rfl,hj,D⟩:=hrel
     by_cases hlt:j < n
     · obtain ⟨y,hy⟩:∃ y,l[j]? = some y:=⟨_,List.getElem?_eq_getElem (by rw [HN.out];exact hlt)⟩
       have hmy:m[j]? = some y:=by
         have:=congrArg (fun (q:List Itm)=>q[0]?) D.out.tail
         simpa [List.getElem?_drop,hy] using this
       have zg:=D.out.own.lt g0 rfl
       obtain ⟨c0,c1,c2,c3,c4,c5,c6,c7⟩:=zav (w:=wr) (i:=y) (b:=g0) (o:=j * 8) (fun a u hu=>by
         have ha:a < 8:=(List.getElem?_eq_some_iff.1 hu).1
         rw [D.out.own.cellAt (j * 8 + a) (by omega),zex m j y hmy a ha]
         exact hu)
       have hij:=D.out.lt
       have zg2:=zg.2
       have q0:(0:Int) ≤ (j:Int):=by omega
       have q1:(j:Int) < (n:Int):=by omega
       have q2:(0:Int) ≤ (i:Int):=by omega
       have q3:(i:Int) < (n:Int):=by omega
       have HY:=y39h hy
       have BQ:=y39h ((Below.refl wr.heap.size wr).alloc (Nat.le_refl _) (.cells (iA y) 69))
       have OY:=y39h (Own.new wr (iA y) 69)
       have hBr:B ≤ wr.heap.size:=by omega
       clear hy hmy zg hij
       cases hd:y.d
       · have HD:=y39h hd
         have CC:=fun w'=>y39h (hd ▸ zgw y w')
         clear hd
         go_wp2_with (first | (go_at_call 57;refine (CC _).out.mono ?_;rintro e w8 ⟨rfl,hb8⟩;replace OY:=y39h (OY.out.later hb8);have hbb:=BQ.out.trans (hb8.mono BQ.out.size);have KEY:=y39h (D.out.keep HN.out HY.out HD.out hbb hBr);have hr8:=zau D.out.own hbb;have TH:Hid (w8.there g0 (i * 8) 8):=y39h (fun a ha=>⟨by rw [hr8.cellAt (i * 8 + a) (by have:=D.out.lt;omega)];rw [List.getElem?_eq_getElem (by rw [zc5,D.out.len];have:=D.out.lt;omega)];rfl,zd9 hr8 _⟩);clear hr8 hb8 hbb;have l8:=OY.out.cell;have z8:=OY.out.lt) | (refine wpList_store_mid (by rfl) 69 _ _ (by rfl) g0 (i * 8) (iA y) (by rfl) (by rfl) (TH.out) (by kernel_rfl) (by simp [Value.oneCell']) ?_;revert KEY;generalize World.setCells _ _ _ _ = W9;intro KEY;clear l8 z8) | fail)
         go_roundw
         case rel=>exact ⟨i + 1,j + 1,_,by go_num,by go_num,by omega,KEY⟩
         case measure=>simp [intOf];omega
       · have HD:=y39h hd
         have CC:=fun w'=>y39h (hd ▸ zgw y w')
         clear hd
         go_wp2_with (first | (go_at_call 57;refine (CC _).out.mono ?_;rintro e w8 ⟨rfl,hb8⟩) | fail)
         go_roundw
         case rel=>exact ⟨i,j + 1,m,rfl,by go_num,by omega,y39h (D.out.skip HY.out HD.out (BQ.out.trans (hb8.mono BQ.out.size)) hBr)⟩
         case measure=>simp [intOf];omega
     · obtain rfl:j = n:=by omega
       have hij:=D.out.lt
       have hown:=D.out.own
       obtain ⟨zs,hz,hcl⟩:=zno wr 41 69 0 (iV Itm.zero) Tryz.underlying41 z1g 8 (by rfl) (by omega) (by decide) g0 (i * 8) (j - i) (cap - i) (by omega) (fun a ha=>by rw [hown.cellAt (i * 8 + a) (by omega),List.getElem?_eq_getElem (by rw [zc5,D.out.len];omega)];rfl) (fun a ha=>zd9 hown _)
       have FIN:=y39h (D.out.fin HN.out HOK.out hz)
       have q2:(0:Int) ≤ (i:Int):=by omega
       have q3:(i:Int) ≤ (j:Int):=by omega
       have q4:(i:Int) ≤ (cap:Int):=by omega
       clear hown D
       go_wp2_with fail
       go_ret
       exact ⟨_,rfl,FIN.out⟩
 · have e1:((-1:Int) == -1) = true:=by rfl
   go_wp2_with fail
   go_ret
   exact ⟨.slice oa n cap,rfl,(zoh hnn).symm ▸ HO1.out.row HOK.out,HB1.out⟩
theorem zfx (s:St) (fv sv ov kv:Value) (w:World) (hS:StW w s fv sv ov kv) (hlen:s.store.length ≤ 1000) :
   Calls Tryz.prog 21 #[stV s fv sv ov kv] w fun e w'=>∃ v',e = .returned v' ∧ Row 8 ic w' (zeh s) v' ∧ Below w.heap.size w w':=by
 have HOK:=y39h hS.ls.oks
 obtain ⟨of_,cf,rfl⟩:=zal hS.lf
 obtain ⟨os,cs,rfl⟩:=hS.ls.val
 obtain ⟨oo,co,rfl⟩:=hS.lo.val
 obtain ⟨ok,ck,rfl⟩:=hS.lk.val
 have BE:=y39h ((Below.refl w.heap.size w).alloc (Nat.le_refl _) (.cells (stA s (.slice of_ s.f.kids.length cf) (.slice os s.store.length cs) (.slice oo s.out.length co) (.slice ok s.k.l.length ck)) 43))
 have CI:=y39h (zfe s.store (.slice os s.store.length cs) _ (hS.ls.later BE.out) (by omega))
 clear hS
 go_enter Tryz.func21,Tryz.ntmps21
 go_wp2_with fail
 refine CI.out.mono ?_
 rintro e w1 ⟨v1,rfl,ho,hb⟩
 replace BE:=y39h (BE.out.trans (hb.mono BE.out.size))
 have DD:=y39h (zm6 s.store v1 _ w1 (ho.mono (by simp)) (Nat.le_trans (Nat.le_refl w.heap.size) BE.out.size) HOK.out (by omega))
 clear ho hb
 go_wp2_with fail
 refine DD.out.mono ?_
 rintro e w2 ⟨v2,rfl,hr,hb⟩
 go_wp2_with fail
 go_ret
 exact ⟨_,rfl,hr,BE.out.trans hb⟩
end Go.Proofs.YthnllikalobmeaaGreat
namespace Go.Proofs.YthnllikalobmeaaGreat
set_option linter.unusedVariables false
set_option linter.unusedSimpArgs false
set_option maxRecDepth 100000
set_option maxHeartbeats 8000000
open Go.RowKit
def gotI (s:St) (id:ByteArray):Itm × Bool:=if (getI s.store id).2 = true then getI s.store id else getI s.out id
theorem zos {s:St} (h:Good s) (id:ByteArray):gotI s id = zaf s id:=by
 unfold gotI
 rcases zf4 h id with ⟨i,hi,e,hq⟩ | ⟨i,hi,e,hq⟩ | ⟨h1,h2,hq⟩
 · have:=(zge h.rs).1 hi
   rw [e] at this
   rw [hq,this];rfl
 · have h1:getI s.store id = (Itm.zero,false):=zc0 fun j hj e'=>h.tw i hi j hj (e'.trans e.symm)
   have h2:=(zge h.ro).1 hi
   rw [e] at h2
   rw [hq,h1,h2];rfl
 · rw [hq,zc0 h1,zc0 h2];rfl
theorem zh4 (s:St) (fv sv ov kv:Value) (id:ByteArray) (w:World) (hS:StW w s fv sv ov kv) (r1:zao s.store) (r2:zao s.out) (h1:s.store.length ≤ 1000) (h2:s.out.length ≤ 1000) (hid:id.size ≤ maxLen) :
   Calls Tryz.prog 67 #[stV s fv sv ov kv,.string id] w fun e w'=>e = .returned (.tuple #[iV (gotI s id).1,.bool (gotI s id).2]) ∧ Below w.heap.size w w':=by
 obtain ⟨of_,cf,rfl⟩:=zal hS.lf
 obtain ⟨os,cs,rfl⟩:=hS.ls.val
 obtain ⟨oo,co,rfl⟩:=hS.lo.val
 obtain ⟨ok,ck,rfl⟩:=hS.lk.val
 have OA:=y39h ((Own.new w (stA s (.slice of_ s.f.kids.length cf) (.slice os s.store.length cs) (.slice oo s.out.length co) (.slice ok s.k.l.length ck)) 43).alloc (.cells (iA Itm.zero) 69))
 have OT:=y39h (Own.newAt (w.alloc (.cells (stA s (.slice of_ s.f.kids.length cf) (.slice os s.store.length cs) (.slice oo s.out.length co) (.slice ok s.k.l.length ck)) 43)) (iA Itm.zero) 69 (b:=w.heap.size + 1) (by simp))
 have BE:=y39h (((Below.refl w.heap.size w).alloc (Nat.le_refl _) (.cells (stA s (.slice of_ s.f.kids.length cf) (.slice os s.store.length cs) (.slice oo s.out.length co) (.slice ok s.k.l.length ck)) 43)).alloc (by simp) (.cells (iA Itm.zero) 69))
 have HW:=y39h hS
 have G1:=fun w' h=>y39h (zen s.store id (.slice os s.store.length cs) w' h r1 h1 hid)
 have G2:=fun w' h=>y39h (zen s.out id (.slice oo s.out.length co) w' h r2 h2 hid)
 clear hS r1 r2 h1 h2 hid
 unfold gotI
 generalize getI s.store id = q1 at *
 generalize getI s.out id = q2 at *
 obtain ⟨x1,b1⟩:=q1
 obtain ⟨x2,b2⟩:=q2
 have l0:=OA.out.cell
 have z0:=OA.out.lt
 cases b1
 · go_enter Tryz.func67,Tryz.ntmps67
   go_wp2_with fail
   refine (G1 _ (HW.out.ls.later BE.out)).out.mono ?_
   rintro e w1 ⟨rfl,hb⟩
   clear l0 z0
   replace BE:=y39h (BE.out.trans (hb.mono BE.out.size))
   replace OA:=y39h (OA.out.later hb)
   replace OT:=y39h (OT.out.later hb)
   clear hb
   replace BE:=y39h (BE.out.alloc (by have:=BE.out.size;omega) (.cells (iA x1) 69))
   replace OA:=y39h (OA.out.alloc (.cells (iA x1) 69))
   replace OT:=y39h (OT.out.alloc (.cells (iA x1) 69))
   have l0:=OA.out.cell
   have z0:=OA.out.lt
   go_wp2_with fail
   refine (G2 _ (HW.out.lo.later BE.out)).out.mono ?_
   rintro e w3 ⟨rfl,hb⟩
   clear l0 z0
   have BE3:=y39h (BE.out.trans (hb.mono BE.out.size))
   have OT3:=y39h (OT.out.later hb)
   clear BE OA OT hb
   have HK:=y39h (And.intro (OT3.out.sets (ic x2) (by rfl)) (zab (b:=w.heap.size + 1) (by omega) (ic x2) 0 BE3.out))
   go_wp2_with (first | (refine wpList_store_mid (by rfl) 69 _ _ (by rfl) (w.heap.size + 1) 0 (iA x2) (by rfl) (by rfl) (OT3.out.there (by rfl)) (by kernel_rfl) (by simp [Value.oneCell']) ?_) | fail)
   revert HK
   generalize World.setCells _ _ _ _ = WW
   intro HK
   exact zae (by rfl) (by rfl) (by rfl) (l:=ic x2) HK.out.1.range Tryz.underlying69 (by rfl) (by kernel_rfl) rfl ⟨rfl,HK.out.2⟩
 · go_enter Tryz.func67,Tryz.ntmps67
   go_wp2_with fail
   refine (G1 _ (HW.out.ls.later BE.out)).out.mono ?_
   rintro e w1 ⟨rfl,hb⟩
   clear l0 z0
   replace BE:=y39h (BE.out.trans (hb.mono BE.out.size))
   replace OT:=y39h (OT.out.later hb)
   clear hb OA
   have O6:=y39h (Own.new w1 (iA x1) 69)
   have zw:=OT.out.lt
   replace BE:=y39h (BE.out.alloc (by have:=BE.out.size;omega) (.cells (iA x1) 69))
   replace OT:=y39h (OT.out.alloc (.cells (iA x1) 69))
   have HK:=y39h (And.intro (OT.out.sets (ic x1) (by rfl)) (zab (b:=w.heap.size + 1) (by omega) (ic x1) 0 BE.out))
   have l6:=O6.out.cell
   go_wp2_with (first | (refine wpList_store_mid (by rfl) 69 _ _ (by rfl) (w.heap.size + 1) 0 (iA x1) (by rfl) (by rfl) (OT.out.there (by rfl)) (by kernel_rfl) (by simp [Value.oneCell']) ?_) | fail)
   revert HK
   generalize World.setCells _ _ _ _ = WW
   intro HK
   exact zae (by rfl) (by rfl) (by rfl) (l:=ic x1) HK.out.1.range Tryz.underlying69 (by rfl) (by kernel_rfl) rfl ⟨rfl,HK.out.2⟩
abbrev zns (x:Itm):Itm:=⟨x.id,1,1,1,x.kd,x.num,x.x,x.y,x.d⟩
theorem zhj (x:Itm) (w:World) :
   Calls Tryz.prog 68 #[iV x] w fun e w'=>e = .returned (.bool (mayT (zns x))) ∧ Below w.heap.size w w':=by
 have BE:=y39h ((Below.refl w.heap.size w).alloc (Nat.le_refl _) (.cells (iA (zns x)) 69))
 have M:=fun w'=>y39h (zkx (zns x) w')
 generalize mayT (zns x) = b at *
 go_enter Tryz.func68,Tryz.ntmps68
 go_wp2_with (go_at_call 114;refine (M _).out.mono ?_;rintro e w3 ⟨rfl,hb3⟩)
 go_ret
 exact ⟨rfl,BE.out.trans (hb3.mono BE.out.size)⟩
end Go.Proofs.YthnllikalobmeaaGreat
namespace Go.Proofs.YthnllikalobmeaaGreat
set_option linter.unusedVariables false
set_option linter.unusedSimpArgs false
set_option maxRecDepth 100000
set_option maxHeartbeats 8000000
open Go
section
variable {P:Program} {ops:Array Oper} {Q:Exit → Act → World → Prop} {md:Region.Mode} {S T:World → Prop} {D:Nat → Bool}
def zcn (P:Program) (md:Region.Mode) (ops:Array Oper) (Q:Exit → Act → World → Prop) (S T:World → Prop) (D:Nat → Bool) (fuel:Nat) (listed:Array Bool) (a:Act) (w:World):Prop :=
 match fuel with
 | 0=>Region.ready md ops listed = [] ∧ Q .normal a w
 | n + 1=>(Region.ready md ops listed = [] → Q .normal a w) ∧ ∀ i ∈ Region.ready md ops listed,
     wpOp P ops Q i (fun a' w'=>(D i = false → S w → S w') ∧ (T w → T w') ∧ zcn P md ops Q S T D n (listed.setIfInBounds i true) a' w') a w
theorem zun:∀ (n:Nat) {l:Array Bool} {a:Act} {w:World},zcn P md ops Q S T D n l a w → wpAny P md ops Q n l a w:=by
 intro n
 induction n with
 | zero=>intro l a w h;exact h
 | succ n ih=>intro l a w h;exact ⟨h.1,fun i hi=>wpOp_mono (fun a' w' hk=>ih hk.2.2) (h.2 i hi)⟩
theorem zqp {i:Nat} {oi:Oper} {v:Value} (hi:ops[i]? = some oi) (hsel:∀ (j:Nat) (o:Oper) cs b,ops[j]? = some o → o.op ≠ .select cs b) (hQ:∀ c a w,Q (.panic c) (a.put oi.dst v) w → Q (.panic c) a w) (hW:zle md ops D i = true) :
   ∀ (n:Nat) {l:Array Bool} {a:Act} {w:World},(∀ j oj,ops[j]? = some oj → j ≠ i → l.getD j true = false → (∀ e ∈ oj.after,Region.binds md e = true → e.on ≠ i) → oi.apart ops oj = true) →
     i ∈ Region.ready md ops l → YieldsIf P ops S oi v a → S w → zcn P md ops Q S T D n (l.setIfInBounds i true) (a.put oi.dst v) w → zcn P md ops Q S T D (n + 1) l a w:=by
 intro n
 induction n with
 | zero =>
   intro l a w _ hr hy hS H
   refine ⟨fun h=>(by rw [h] at hr;cases hr),fun j hj=>?_⟩
   rcases Decidable.em (j = i) with e | e
   · subst e;exact hy.wpOp hi hS ⟨fun _ h=>h,fun h=>h,H⟩
   · have hm:=ready_mono hj e
     rw [H.1] at hm;cases hm
 | succ n ih =>
   intro l a w hfree hr hy hS H
   refine ⟨fun h=>(by rw [h] at hr;cases hr),fun j hj=>?_⟩
   rcases Decidable.em (j = i) with e | e
   · subst e;exact hy.wpOp hi hS ⟨fun _ h=>h,fun h=>h,H⟩
   · obtain ⟨hun,oj,hoj,hall⟩:=mem_ready.1 hj
     have hli:=(mem_ready.1 hr).1
     have hDj:=zrw hW hj hoj hli
     have hno:∀ k ∈ oj.after,Region.binds md k = true → k.on ≠ i:=by
       intro k hk hb hki
       have h1:=hall k hk hb
       rw [hki] at h1
       rcases Nat.lt_or_ge i l.size with hl | hl
       · simp [hl] at hli h1;rw [hli] at h1;cases h1
       · simp [Array.getElem?_eq_none hl] at hli
     have hstep:=wpOp_putIf hoj (hfree j oj hoj e hun hno) (fun cs b=>hsel i oi cs b hi) (fun cs b=>hsel j oj cs b hoj) hQ hy (H.2 j (ready_mono hj e))
     refine wpOp_mono (fun a' w' hk=>⟨hk.2.1,hk.2.2.1,ih ?_ (ready_mono hr (Ne.symm e)) hk.1 (hk.2.1 hDj hS) ?_⟩) hstep
     · intro k ok hok hki hku hkno
       refine hfree k ok hok hki ?_ hkno
       rcases Decidable.em (j = k) with ejk | ejk
       · subst ejk;exact hun
       · rw [getD_set_ne true ejk] at hku;exact hku
     · rw [Array.setIfInBounds_comm _ _ e];exact hk.2.2.2
theorem zo7 {i:Nat} {oi:Oper} {v:Value} (hi:ops[i]? = some oi) (hsel:∀ (j:Nat) (o:Oper) cs b,ops[j]? = some o → o.op ≠ .select cs b) (hQ:∀ c a w,Q (.panic c) (a.put oi.dst v) w → Q (.panic c) a w) :
   ∀ (n:Nat) {l:Array Bool} {a:Act} {w:World},(∀ j oj,ops[j]? = some oj → j ≠ i → l.getD j true = false → (∀ e ∈ oj.after,Region.binds md e = true → e.on ≠ i) → oi.apart ops oj = true) →
     i ∈ Region.ready md ops l → YieldsIf P ops T oi v a → T w → zcn P md ops Q S T D n (l.setIfInBounds i true) (a.put oi.dst v) w → zcn P md ops Q S T D (n + 1) l a w:=by
 intro n
 induction n with
 | zero =>
   intro l a w _ hr hy hT H
   refine ⟨fun h=>(by rw [h] at hr;cases hr),fun j hj=>?_⟩
   rcases Decidable.em (j = i) with e | e
   · subst e;exact hy.wpOp hi hT ⟨fun _ h=>h,fun h=>h,H⟩
   · have hm:=ready_mono hj e
     rw [H.1] at hm;cases hm
 | succ n ih =>
   intro l a w hfree hr hy hT H
   refine ⟨fun h=>(by rw [h] at hr;cases hr),fun j hj=>?_⟩
   rcases Decidable.em (j = i) with e | e
   · subst e;exact hy.wpOp hi hT ⟨fun _ h=>h,fun h=>h,H⟩
   · obtain ⟨hun,oj,hoj,hall⟩:=mem_ready.1 hj
     have hli:=(mem_ready.1 hr).1
     have hno:∀ k ∈ oj.after,Region.binds md k = true → k.on ≠ i:=by
       intro k hk hb hki
       have h1:=hall k hk hb
       rw [hki] at h1
       rcases Nat.lt_or_ge i l.size with hl | hl
       · simp [hl] at hli h1;rw [hli] at h1;cases h1
       · simp [Array.getElem?_eq_none hl] at hli
     have hstep:=wpOp_putIf hoj (hfree j oj hoj e hun hno) (fun cs b=>hsel i oi cs b hi) (fun cs b=>hsel j oj cs b hoj) hQ hy (H.2 j (ready_mono hj e))
     refine wpOp_mono (fun a' w' hk=>⟨hk.2.1,hk.2.2.1,ih ?_ (ready_mono hr (Ne.symm e)) hk.1 (hk.2.2.1 hT) ?_⟩) hstep
     · intro k ok hok hki hku hkno
       refine hfree k ok hok hki ?_ hkno
       rcases Decidable.em (j = k) with ejk | ejk
       · subst ejk;exact hun
       · rw [getD_set_ne true ejk] at hku;exact hku
     · rw [Array.setIfInBounds_comm _ _ e];exact hk.2.2.2
theorem zdx {i:Nat} {oi:Oper} {v:Value} {n:Nat} {l:Array Bool} {a:Act} {w:World} (hi:ops[i]? = some oi) (hs:Region.noSelect ops = true) (hf:Region.free md ops l i = true) (hr:(Region.ready md ops l).contains i = true) (hW:zle md ops D i = true)
   (hQ:∀ c a w,Q (.panic c) (a.put oi.dst v) w → Q (.panic c) a w) (hy:YieldsIf P ops S oi v a) (hS:S w) (h:zcn P md ops Q S T D n (l.setIfInBounds i true) (a.put oi.dst v) w):zcn P md ops Q S T D (n + 1) l a w :=
 zqp hi (Region.noSelect_spec hs) hQ hW n (Region.free_spec hi hf) (by simpa using hr) hy hS h
theorem zaj {i:Nat} {oi:Oper} {v:Value} {n:Nat} {l:Array Bool} {a:Act} {w:World} (hi:ops[i]? = some oi) (hs:Region.noSelect ops = true) (hf:Region.free md ops l i = true) (hr:(Region.ready md ops l).contains i = true)
   (hQ:∀ c a w,Q (.panic c) (a.put oi.dst v) w → Q (.panic c) a w) (hy:YieldsIf P ops T oi v a) (hT:T w) (h:zcn P md ops Q S T D n (l.setIfInBounds i true) (a.put oi.dst v) w):zcn P md ops Q S T D (n + 1) l a w :=
 zo7 hi (Region.noSelect_spec hs) hQ n (Region.free_spec hi hf) (by simpa using hr) hy hT h
theorem za7 {i:Nat} {o:Oper} {n:Nat} {l:Array Bool} {a:Act} {w:World} (hr:Region.ready md ops l = [i]) (ho:ops[i]? = some o)
   (h:∀ K:Act → World → Prop,Shut (∀ a w,(D i = false → S w) → T w → ((D i = false → S w) → T w → zcn P md ops Q S T D n (l.setIfInBounds i true) a w) → K a w) → if Region.wanted o (yielded ops a.tmps) = true then Oper.wp P o a w K Q else K (a.put o.dst undef) w) :
   zcn P md ops Q S T D (n + 1) l a w:=by
 refine ⟨fun h0=>(by rw [hr] at h0;cases h0),fun j hj=>?_⟩
 rw [hr] at hj
 have e:j = i:=by simpa using hj
 subst e
 exact wpOp_step ho (fun K hK=>h K (fun a w h1 h2 h3=>hK a w ⟨fun hd _=>h1 hd,fun _=>h2,h3 h1 h2⟩))
theorem zdw {l:Array Bool} {a:Act} {w:World} (hr:Region.ready md ops l = []) (h:Q .normal a w):∀ n,zcn P md ops Q S T D n l a w
 | 0=>⟨hr,h⟩
 | _ + 1=>⟨fun _=>h,by rw [hr];simp⟩
theorem zdf {id:Nat} {a:Act} {w:World} (hm:P.follows .mixedOrders = true) (hS:S w.drew) (hT:T w.drew) (h:S w.drew → T w.drew → zcn P .any ops Q S T D ops.size (Array.replicate ops.size false) a w.drew):(Code.region id ops true).wp P Q a w :=
 wp_region_any hm (zun _ (h hS hT))
end
end Go.Proofs.YthnllikalobmeaaGreat
