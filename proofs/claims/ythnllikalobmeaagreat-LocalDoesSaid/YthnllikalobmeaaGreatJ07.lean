/- Joined: ItemD, ItemE, ItemM, ListM. -/
import Derived.Test.YthnllikalobmeaaGreatJ06
import Derived.Test.YthnllikalobmeaaGreatJ04
import Derived.Test.YthnllikalobmeaaGreatJ05
namespace Go.Proofs.YthnllikalobmeaaGreat
set_option linter.unusedVariables false
set_option linter.unusedSimpArgs false
set_option maxRecDepth 100000
set_option maxHeartbeats 8000000
open Go.RowKit
theorem y07h {p:Prop} (h:p):Hid p:=Lib.hid h
theorem zpp (id:ByteArray) (r c st:Int) (kd:ByteArray) (n:Int) (x y:Nat) (d:Bool) (w:World) (hi:id.size ≤ maxLen) (hk:kd.size ≤ maxLen) :
   Calls Tryz.prog 87 #[zef id r c st kd n x y d] w fun e w'=>e = .returned (.bool (mayI id r c st kd n x y)) ∧ Below w.heap.size w w':=by
 have H1:=fun w=>y07h (zes id w hi)
 have H2:=fun w=>y07h (zho kd w hk)
 have H3:=fun w=>y07h (zpr r c w)
 have H6:=fun w=>y07h (zeg x y w)
 clear hi hk
 unfold mayI inB
 go_enter Tryz.func87,Tryz.ntmps87
 go_wp2_with (first | (go_at_call 91;refine ((H1 _).out).mono ?_;rintro e w' ⟨rfl,rfl⟩) | (go_at_call 131;refine ((H2 _).out).mono ?_;rintro e w' ⟨rfl,rfl⟩) | (go_at_call 134;refine ((H3 _).out).mono ?_;rintro e w' ⟨rfl,hb⟩;obtain ⟨hc,hf⟩:=zyc hb) | (go_at_call 132;refine ((H6 _).out).mono ?_;rintro e w' ⟨rfl,rfl⟩))
 all_goals
   go_ret
   refine ⟨zaa ?_,?_⟩
   · (try simp_all) <;> (try omega)
   · first | exact (Below.refl _ _).alloc (Nat.le_refl _) _ | exact zai hb
def cmpI (a b:Int):Int:=if a < b then -1 else if b < a then 1 else 0
def orI (a b:Int):Int:=if a = 0 then b else a
def cmpV (st r c st' r' c':Int):Int:=orI (cmpI st st') (orI (cmpI r r') (cmpI c c'))
theorem zql (a:Int) (w:World) :
   Calls Tryz.prog 177 #[.int .i64 a] w fun e w'=>e = .returned (.bool false) ∧ w = w':=by
 go_enter Tryz.func177,Tryz.ntmps177
 go_wp2
 go_ret
 exact ⟨zaa (by simp),rfl⟩
theorem zty (a b:Int) (w:World) :
   Calls Tryz.prog 170 #[.int .i64 a,.int .i64 b] w fun e w'=>e = .returned (.int .i64 (cmpI a b)) ∧ w = w':=by
 have H:=fun a w=>y07h (zql a w)
 unfold cmpI
 by_cases h1:a < b <;> by_cases h2:b < a <;>
 first | (exfalso;omega) | (
   go_enter Tryz.func170,Tryz.ntmps170
   go_wp2_with (go_at_call 177;refine ((H _ _).out).mono ?_;rintro e w' ⟨rfl,rfl⟩)
   go_ret
   exact ⟨zb0 (by simp [h1,h2]),rfl⟩ )
def z0c (a b c:Int) (i:Value):Prop:=i = .int .i64 0 ∨ (i = .int .i64 1 ∧ a = 0) ∨ (i = .int .i64 2 ∧ a = 0 ∧ b = 0) ∨ (i = .int .i64 3 ∧ a = 0 ∧ b = 0 ∧ c = 0)
theorem zw8 (a b c:Int) (g:Nat) (w:World) (h0:w.cell? ⟨g,0,none⟩ = some (.int .i64 a)) (h1:w.cell? ⟨g,1,none⟩ = some (.int .i64 b)) (h2:w.cell? ⟨g,2,none⟩ = some (.int .i64 c)) :
   Calls Tryz.prog 169 #[.slice (some ⟨g,0,none⟩) 3 3] w fun e w'=>e = .returned (.int .i64 (orI a (orI b c))) ∧ w = w':=by
 go_enter Tryz.func169,Tryz.ntmps169
 go_wp2
 go_loop [5,8] (fun _ i=>z0c a b c i) (fun _ i=>4 - (intOf i).toNat)
 case atStart=>exact .inl rfl
 case round =>
   rcases hrel with rfl | ⟨rfl,h⟩ | ⟨rfl,h,h'⟩ | ⟨rfl,h,h',h''⟩
   · by_cases ha:a = 0
     · have e1:(a == 0) = true:=by simpa using ha
       have e2:(a != 0) = false:=by simpa using ha
       have E:=y07h ha
       clear ha
       go_wp2
       go_round
       case rel=>exact .inr (.inl ⟨by go_num,E.out⟩)
       case measure=>simp [intOf]
     · have e1:(a == 0) = false:=by simpa using ha
       have e2:(a != 0) = true:=by simpa using ha
       have E:=y07h ha
       clear ha
       go_wp2
       go_ret
       exact ⟨zb0 (by unfold orI;rw [if_neg E.out]),rfl⟩
   · have H:=y07h h
     clear h
     by_cases ha:b = 0
     · have e1:(b == 0) = true:=by simpa using ha
       have e2:(b != 0) = false:=by simpa using ha
       have E:=y07h ha
       clear ha
       go_wp2
       go_round
       case rel=>exact .inr (.inr (.inl ⟨by go_num,H.out,E.out⟩))
       case measure=>simp [intOf]
     · have e1:(b == 0) = false:=by simpa using ha
       have e2:(b != 0) = true:=by simpa using ha
       have E:=y07h ha
       clear ha
       go_wp2
       go_ret
       exact ⟨zb0 (by unfold orI;rw [if_pos H.out,if_neg E.out]),rfl⟩
   · have H:=y07h h
     have H':=y07h h'
     clear h h'
     by_cases ha:c = 0
     · have e1:(c == 0) = true:=by simpa using ha
       have e2:(c != 0) = false:=by simpa using ha
       have E:=y07h ha
       clear ha
       go_wp2
       go_round
       case rel=>exact .inr (.inr (.inr ⟨by go_num,H.out,H'.out,E.out⟩))
       case measure=>simp [intOf]
     · have e1:(c == 0) = false:=by simpa using ha
       have e2:(c != 0) = true:=by simpa using ha
       clear ha
       go_wp2
       go_ret
       exact ⟨zb0 (by unfold orI;rw [if_pos H.out,if_pos H'.out]),rfl⟩
   · have H:=y07h h
     have H':=y07h h'
     have H'':=y07h h''
     clear h h' h''
     go_wp2
     go_ret
     exact ⟨zb0 (by unfold orI;rw [if_pos H.out,if_pos H'.out,H''.out]),rfl⟩
theorem zm3 (id:ByteArray) (r c st:Int) (kd:ByteArray) (n:Int) (x y:Nat) (d:Bool) (id':ByteArray) (r' c' st':Int) (kd':ByteArray) (n':Int) (x' y':Nat) (d':Bool) (w:World) :
   Calls Tryz.prog 144 #[zef id r c st kd n x y d,zef id' r' c' st' kd' n' x' y' d'] w fun e w'=>e = .returned (.int .i64 (cmpV st r c st' r' c')) ∧ Below w.heap.size w w':=by
 have H:=fun a b w=>y07h (zty a b w)
 have O:=fun a b c g w h0 h1 h2=>y07h (zw8 a b c g w h0 h1 h2)
 go_enter Tryz.func144,Tryz.ntmps144
 go_wp2
 refine za1 19 (by kernel_rfl) (by kernel_rfl) ?_
 simp only [List.take_succ_cons,List.take_zero,List.drop_succ_cons,List.drop_zero]
 repeat (first | still_step | (refine wpStill_step (fun K hK=>?_);go_simp;refine ⟨_,zdl (H _ _ _).out,hK _ ?_⟩;clear hK K))
 refine wpStill_nil ?_
 go_wp2_with fail
 refine (O (cmpI st st') (cmpI r r') (cmpI c c') _ _ ?_ ?_ ?_).out.mono ?_
 rotate_left 3
 · rintro e w' ⟨rfl,rfl⟩
   go_wp2
   go_ret
   exact ⟨rfl,((((Below.refl _ _).alloc (Nat.le_refl _) _).alloc (by simp) _).alloc (by simp;omega) _).drew⟩
 all_goals go_simp
theorem zn1 (id:ByteArray) (r c st:Int) (kd:ByteArray) (n:Int) (x y:Nat) (d:Bool) (id':ByteArray) (r' c' st':Int) (kd':ByteArray) (n':Int) (x' y':Nat) (d':Bool) (w:World) :
   Calls Tryz.prog 105 #[zef id r c st kd n x y d,zef id' r' c' st' kd' n' x' y' d'] w fun e w'=>e = .returned (.bool (decide (cmpV st r c st' r' c' = 1))) ∧ Below w.heap.size w w':=by
 by_cases h1:st = st'
 · subst h1
   by_cases h2:r = r'
   · subst h2
     have e:cmpV st r c st r c' = cmpI c c':=by simp [cmpV,orI,cmpI]
     rw [e]
     clear e
     unfold cmpI
     by_cases h3:c' < c
     · have e:(if c < c' then (-1:Int) else if c' < c then 1 else 0) = 1:=by rw [if_neg (by omega),if_pos h3]
       rw [e];clear e
       go_enter Tryz.func105,Tryz.ntmps105
       go_wp2
       go_ret
       exact ⟨by simp,(((Below.refl _ _).alloc (Nat.le_refl _) _).alloc (by simp) _)⟩
     · have e:decide ((if c < c' then (-1:Int) else if c' < c then 1 else 0) = 1) = false:=by rw [if_neg h3];split <;> simp
       rw [e];clear e
       go_enter Tryz.func105,Tryz.ntmps105
       go_wp2
       go_ret
       exact ⟨by simp,(((Below.refl _ _).alloc (Nat.le_refl _) _).alloc (by simp) _)⟩
   · have e1:(r == r') = false:=by simpa using h2
     have e2:(r != r') = true:=by simpa using h2
     have e:decide (cmpV st r c st r' c' = 1) = decide (r' < r):=by
       rw [decide_eq_decide]
       simp only [cmpV,orI,cmpI]
       split <;> split <;> (try split) <;> simp_all <;> omega
     rw [e]
     clear e h2
     go_enter Tryz.func105,Tryz.ntmps105
     go_wp2
     go_ret
     exact ⟨by simp,(((Below.refl _ _).alloc (Nat.le_refl _) _).alloc (by simp) _)⟩
 · have e1:(st == st') = false:=by simpa using h1
   have e2:(st != st') = true:=by simpa using h1
   have e:decide (cmpV st r c st' r' c' = 1) = decide (st' < st):=by
     rw [decide_eq_decide]
     simp only [cmpV,orI,cmpI]
     split <;> (try split) <;> simp_all <;> omega
   rw [e]
   clear e h1
   go_enter Tryz.func105,Tryz.ntmps105
   go_wp2
   go_ret
   exact ⟨by simp,(((Below.refl _ _).alloc (Nat.le_refl _) _).alloc (by simp) _)⟩
def znu (id:ByteArray) (r c st:Int) (kd:ByteArray) (n:Int) (x y:Nat) (d:Bool) (id':ByteArray) (r' c' st':Int) (kd':ByteArray) (n':Int) (x' y':Nat) (d':Bool):Bool :=
 decide (id.toList = id'.toList) && (decide (r = r') && (decide (c = c') && (decide (st = st') && (decide (kd.toList = kd'.toList) && (decide (n = n') && (decide (d = d') && (feq x x' && feq y y')))))))
theorem znl (id:ByteArray) (r c st:Int) (kd:ByteArray) (n:Int) (x y:Nat) (d:Bool) (id':ByteArray) (r' c' st':Int) (kd':ByteArray) (n':Int) (x' y':Nat) (d':Bool) (w:World) :
   Calls Tryz.prog 59 #[zef id r c st kd n x y d,zef id' r' c' st' kd' n' x' y' d'] w fun e w'=>e = .returned (.bool (znu id r c st kd n x y d id' r' c' st' kd' n' x' y' d')) ∧ Below w.heap.size w w':=by
 have f1:∀ x y,(FloatKind.f64.format.order x y == some .eq) = feq x y:=fun _ _=>rfl
 go_enter Tryz.func59,Tryz.ntmps59
 go_wp2
 all_goals
   go_ret
   exact ⟨zaa (by simp_all [znu]),((Below.refl _ _).alloc (Nat.le_refl _) _).alloc (by simp) _⟩
def mayT (i:Itm):Bool:=mayI i.id i.r i.c i.st i.kd i.num i.x i.y
def cmpT (a b:Itm):Int:=cmpV a.st a.r a.c b.st b.r b.c
def behT (a b:Itm):Bool:=decide (cmpT a b = 1)
def zcv (a b:Itm):Bool:=znu a.id a.r a.c a.st a.kd a.num a.x a.y a.d b.id b.r b.c b.st b.kd b.num b.x b.y b.d
theorem zhb {i:Itm} (hx:feq i.x i.x = true) (hy:feq i.y i.y = true):zcv i i = true:=by
 unfold zcv znu
 simp [hx,hy]
theorem zd7 {i:Itm} (h:mayT i = true):feq i.x i.x = true ∧ feq i.y i.y = true:=by
 unfold mayT mayI mayB at h
 simp only [Bool.and_eq_true] at h
 exact ⟨zgx h.2.2.2.2.2.1,zgx h.2.2.2.2.2.2⟩
theorem zer (i:Itm) (w:World) (hi:i.id.size ≤ maxLen) (hk:i.kd.size ≤ maxLen) :
   Calls Tryz.prog 87 #[iV i] w fun e w'=>e = .returned (.bool (mayT i)) ∧ Below w.heap.size w w' :=
 zpp i.id i.r i.c i.st i.kd i.num i.x i.y i.d w hi hk
theorem zj8 (a b:Itm) (w:World) :
   Calls Tryz.prog 105 #[iV a,iV b] w fun e w'=>e = .returned (.bool (behT a b)) ∧ Below w.heap.size w w' :=
 zn1 a.id a.r a.c a.st a.kd a.num a.x a.y a.d b.id b.r b.c b.st b.kd b.num b.x b.y b.d w
theorem zgb (a b:Itm) (w:World) :
   Calls Tryz.prog 59 #[iV a,iV b] w fun e w'=>e = .returned (.bool (zcv a b)) ∧ Below w.heap.size w w' :=
 znl a.id a.r a.c a.st a.kd a.num a.x a.y a.d b.id b.r b.c b.st b.kd b.num b.x b.y b.d w
theorem ztg (a b:Itm):upB a b = lsB a.id b.id:=by
 have h:=zee b.id a.id
 unfold gtB at h
 exact h
theorem zk9:∀ {l:List Itm},zcg l = true ↔ Rise (l.map (·.id))
 | []=>by simp [zcg,Rise]
 | [a]=>by simp [zcg,Rise]
 | a :: b :: l=>by
   rw [zcg,Bool.and_eq_true,zk9 (l:=b :: l),ztg]
   have e:(a :: b :: l).map (·.id) = a.id :: (b :: l).map (·.id):=rfl
   rw [e,rise_cons]
   constructor
   · rintro ⟨h1,h2⟩
     refine ⟨fun x hx=>?_,h2⟩
     rw [List.map_cons] at hx h2
     rcases List.mem_cons.1 hx with e | hx
     · subst e;exact h1
     · exact zbm h1 ((rise_cons.1 h2).1 x hx)
   · rintro ⟨h1,h2⟩
     exact ⟨h1 b.id (by simp),h2⟩
abbrev zao (l:List Itm):Prop:=Rise (l.map (·.id))
theorem riseI_cons {a:Itm} {l:List Itm}:zao (a :: l) ↔ (∀ x ∈ l,lsB a.id x.id = true) ∧ zao l:=by
 unfold zao
 rw [List.map_cons,rise_cons]
 simp
theorem zbh {p:Itm → Bool} {l:List Itm} (h:zao l):zao (l.filter p):=by
 unfold zao Rise at *
 rw [List.pairwise_map] at *
 exact List.Pairwise.filter p h
theorem zmt {l m:List Itm} (h1:zao l) (h2:zao m) (h:∀ a ∈ l,∀ b ∈ m,lsB a.id b.id = true):zao (l ++ m):=by
 unfold zao Rise at *
 rw [List.map_append,List.pairwise_append]
 refine ⟨h1,h2,fun a ha b hb=>?_⟩
 obtain ⟨x,hx,rfl⟩:=List.mem_map.1 ha
 obtain ⟨y,hy,rfl⟩:=List.mem_map.1 hb
 exact h x hx y hy
theorem ze8 {l:List Itm} (h:zao l) {a b:Itm} (ha:a ∈ l) (hb:b ∈ l) (e:a.id = b.id):a = b:=by
 induction l with
 | nil=>simp at ha
 | cons x l ih =>
   rw [riseI_cons] at h
   rcases List.mem_cons.1 ha with ea | ha
   · rcases List.mem_cons.1 hb with eb | hb
     · rw [ea,eb]
     · have:=h.1 b hb;rw [← ea,e,zbg] at this;cases this
   · rcases List.mem_cons.1 hb with eb | hb
     · have:=h.1 a ha;rw [← eb,e,zbg] at this;cases this
     · exact ih h.2 ha hb
theorem zfj {l:List Itm} {x:Itm} (h:zao l):zao (putI l x):=by
 unfold putI
 refine zmt (zmt (zbh h) (riseI_cons.2 ⟨by simp,by simp [zao,Rise]⟩) fun a ha b hb=>?_) (zbh h) fun a ha b hb=>?_
 · simp at hb;subst hb;exact (List.mem_filter.1 ha).2
 · have h2:=(List.mem_filter.1 hb).2
   rw [zee] at h2
   rcases List.mem_append.1 ha with ha | ha
   · exact zbm (List.mem_filter.1 ha).2 h2
   · simp at ha;subst ha;exact h2
theorem mem_put {l:List Itm} {x i:Itm}:i ∈ putI l x ↔ i = x ∨ (i ∈ l ∧ i.id ≠ x.id):=by
 unfold putI
 simp only [List.mem_append,List.mem_filter,List.mem_cons,List.not_mem_nil,or_false,zee]
 constructor
 · rintro ((⟨h1,h2⟩ | h) | ⟨h1,h2⟩)
   · exact .inr ⟨h1,zfy h2⟩
   · exact .inl h
   · exact .inr ⟨h1,fun e=>zfy h2 e.symm⟩
 · rintro (h | ⟨h1,h2⟩)
   · exact .inl (.inr h)
   · rcases zdg i.id x.id with h | h | h
     · exact .inl (.inl ⟨h1,h⟩)
     · exact absurd h h2
     · exact .inr ⟨h1,h⟩
theorem mem_drop {l:List Itm} {id:ByteArray} {i:Itm}:i ∈ l.filter (neB id) ↔ i ∈ l ∧ i.id ≠ id:=by
 rw [List.mem_filter]
 unfold neB
 rw [Bool.not_eq_true',tl_ne]
theorem zfg {l:List Itm} {id:ByteArray} {i:Itm} (h:zao l) (hi:i ∈ l) (e:i.id = id):getI l id = (i,true):=by
 unfold getI
 have hf:l.find? (fun i=>i.id.toList == id.toList) = some i:=by
   cases hq:l.find? (fun i=>i.id.toList == id.toList) with
   | none =>
     rw [List.find?_eq_none] at hq
     exact absurd (tl_eq.2 e) (hq i hi)
   | some j =>
     have hj:(j.id.toList == id.toList) = true:=List.find?_some (p:=fun i:Itm=>i.id.toList == id.toList) hq
     have hm:=List.mem_of_find?_eq_some hq
     rw [ze8 h hm hi ((tl_eq.1 hj).trans e.symm)]
 rw [hf]
theorem zc0 {l:List Itm} {id:ByteArray} (h:∀ i ∈ l,i.id ≠ id):getI l id = (Itm.zero,false):=by
 unfold getI
 rw [show l.find? (fun i=>i.id.toList == id.toList) = none from List.find?_eq_none.2 fun i hi hq=>h i hi (tl_eq.1 hq)]
theorem zcr (l:List Itm) (id:ByteArray):(∃ i,i ∈ l ∧ i.id = id ∧ getI l id = (i,true)) ∨ ((∀ i ∈ l,i.id ≠ id) ∧ getI l id = (Itm.zero,false)):=by
 by_cases h:∃ i ∈ l,i.id = id
 · obtain ⟨i,hi,e⟩:=h
   left
   unfold getI
   cases hq:l.find? (fun i=>i.id.toList == id.toList) with
   | none=>rw [List.find?_eq_none] at hq;exact absurd (tl_eq.2 e) (hq i hi)
   | some j=>exact ⟨j,List.mem_of_find?_eq_some hq,tl_eq.1 (List.find?_some (p:=fun i:Itm=>i.id.toList == id.toList) hq),rfl⟩
 · right
   have h':∀ i ∈ l,i.id ≠ id:=fun i hi e=>h ⟨i,hi,e⟩
   exact ⟨h',zc0 h'⟩
theorem zor {l m:List Itm} {id:ByteArray} (hl:zao l) (h:∀ i:Itm,i.id = id → (i ∈ l ↔ i ∈ m)):getI m id = getI l id:=by
 rcases zcr m id with ⟨i,hi,e,hg⟩ | ⟨hn,hg⟩
 · rw [hg,zfg hl ((h i e).2 hi) e]
 · rw [hg,zc0 fun i hi e=>hn i ((h i e).1 hi) e]
theorem zrc {l:List Itm} {x:Itm} (h:zao l) (id:ByteArray):getI (putI l x) id = if id = x.id then (x,true) else getI l id:=by
 split
 · rename_i e;exact zfg (zfj h) (mem_put.2 (.inl rfl)) e.symm
 · rename_i e
   refine zor h fun i hi=>?_
   rw [mem_put]
   constructor
   · intro hm;exact .inr ⟨hm,fun e'=>e (hi.symm.trans e')⟩
   · rintro (rfl | h)
     · exact absurd hi.symm e
     · exact h.1
theorem zf5 {f:Itm → Itm → Bool} {l:List Itm} {y:Itm} (h:zao l):zao (zci f l y):=by
 unfold zci;split
 · exact zfj h
 · exact h
theorem zej {f:Itm → Itm → Bool} (b:List Itm):∀ {a:List Itm},zao a → zao (zat f a b):=by
 induction b with
 | nil=>intro a h;exact h
 | cons y b ih=>intro a h;exact ih (zf5 h)
theorem zn4 {f:Itm → Itm → Bool} (b:List Itm):∀ {a:List Itm} {i:Itm},i ∈ zat f a b → i ∈ a ∨ i ∈ b:=by
 induction b with
 | nil=>intro a i h;exact .inl h
 | cons y b ih =>
   intro a i h
   have h':i ∈ zat f (zci f a y) b:=h
   rcases ih h' with h1 | h1
   · rcases zx1 h1 with h2 | h2
     · exact .inl h2
     · exact .inr (by simp [h2])
   · exact .inr (by simp [h1])
theorem zjs {f:Itm → Itm → Bool} {l:List Itm} {y:Itm} (h:zao l) (id:ByteArray):getI (zci f l y) id = if id = y.id then (if (!(getI l id).2 || f y (getI l id).1) = true then (y,true) else getI l id) else getI l id:=by
 unfold zci
 by_cases e:id = y.id
 · subst e
   rw [if_pos rfl]
   split
   · rw [zrc h,if_pos rfl]
   · rfl
 · rw [if_neg e]
   split
   · rw [zrc h,if_neg e]
   · rfl
theorem zr3 {f:Itm → Itm → Bool} (b:List Itm):∀ {a:List Itm} {id:ByteArray},zao a → (∀ i ∈ b,i.id ≠ id) → getI (zat f a b) id = getI a id:=by
 induction b with
 | nil=>intro a id _ _;rfl
 | cons y b ih =>
   intro a id h hn
   have h':getI (zat f (zci f a y) b) id = getI (zci f a y) id:=ih (zf5 h) fun i hi=>hn i (by simp [hi])
   have:zat f a (y :: b) = zat f (zci f a y) b:=rfl
   rw [this,h',zjs h,if_neg (fun e=>hn y (by simp) e.symm)]
theorem zoq {f:Itm → Itm → Bool} (b:List Itm):∀ {a:List Itm} (id:ByteArray),zao a → zao b → getI (zat f a b) id = if (getI b id).2 = true then (if (!(getI a id).2 || f (getI b id).1 (getI a id).1) = true then ((getI b id).1,true) else getI a id) else getI a id:=by
 induction b with
 | nil=>intro a id _ _;rw [show getI [] id = (Itm.zero,false) from rfl];rfl
 | cons y b ih =>
   intro a id ha hb
   rw [riseI_cons] at hb
   have e0:zat f a (y :: b) = zat f (zci f a y) b:=rfl
   by_cases e:id = y.id
   · have hn:∀ i ∈ b,i.id ≠ id:=by
       intro i hi e'
       have:=hb.1 i hi
       rw [e',e,zbg] at this;cases this
     have hg:getI (y :: b) id = (y,true):=zfg (riseI_cons.2 hb) (by simp) e.symm
     rw [e0,zr3 b (zf5 ha) hn,zjs ha,if_pos e,hg,if_pos rfl]
   · have hg:getI (y :: b) id = getI b id:=zor hb.2 fun i hi=>by
       constructor
       · intro h;simp [h]
       · intro h
         rcases List.mem_cons.1 h with rfl | h
         · exact absurd hi.symm e
         · exact h
     rw [e0,ih id (zf5 ha) hb.2,hg,zjs ha,if_neg e]
end Go.Proofs.YthnllikalobmeaaGreat
