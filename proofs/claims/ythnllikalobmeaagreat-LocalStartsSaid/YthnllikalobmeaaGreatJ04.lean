/- Joined: RowI, ItemQ, Ord, RefList. -/
import Derived.Test.YthnllikalobmeaaGreatJ01
import Derived.Test.YthnllikalobmeaaGreatJ02
import Derived.Deep.CutBlock
import Derived.Deep.DeepCutAuto
namespace Go.Proofs.YthnllikalobmeaaGreat
set_option linter.unusedVariables false
set_option linter.unusedSimpArgs false
set_option maxRecDepth 100000
set_option maxHeartbeats 8000000
open Go.RowKit
theorem y04h {p:Prop} (h:p):Hid p:=Lib.hid h
structure Itm where
 id:ByteArray
 r:Int
 c:Int
 st:Int
 kd:ByteArray
 num:Int
 x:Nat
 y:Nat
 d:Bool
def Itm.zero:Itm:=⟨⟨#[]⟩,0,0,0,⟨#[]⟩,0,0,0,false⟩
abbrev ic (i:Itm):List Value:=[.string i.id,.int .i64 i.r,.int .i64 i.c,.int .i64 i.st,.string i.kd,.int .i64 i.num,.complex .f64 i.x i.y,.bool i.d]
abbrev rc (i:Itm):List Value:=[.string i.id,.int .i64 i.r,.int .i64 i.c,.int .i64 i.st,.string i.kd,.int .i64 i.num,.float .f64 i.x,.float .f64 i.y,.bool i.d]
abbrev iV (i:Itm):Value:=.agg #[.string i.id,.int .i64 i.r,.int .i64 i.c,.int .i64 i.st,.string i.kd,.int .i64 i.num,.complex .f64 i.x i.y,.bool i.d]
theorem zbs {α:Type} {l:List α} {k:Nat} {a:α} (h:l[k]? = some a):k < l.length:=(List.getElem?_eq_some_iff.1 h).1
structure RowAt (sz:Nat) (f:Itm → List Value) (w:World) (l:List Itm) (oa:Option Addr) (cap b o:Nat):Prop where
 len:l.length ≤ cap
 max:cap ≤ maxLen
 at0:0 < l.length → oa = some ⟨b,o,none⟩ ∧ b < w.heap.size
 cell:∀ k i,l[k]? = some i → ∀ j u,(f i)[j]? = some u → w.cell? ⟨b,o + k * sz + j,none⟩ = some u
 ok:∀ i ∈ l,i.id.size ≤ maxLen ∧ i.kd.size ≤ maxLen
def Row (sz:Nat) (f:Itm → List Value) (w:World) (l:List Itm) (v:Value):Prop:=∃ oa cap b o,v = .slice oa l.length cap ∧ RowAt sz f w l oa cap b o
theorem RowAt.later {sz:Nat} {f:Itm → List Value} {w w':World} {l:List Itm} {oa:Option Addr} {cap b o:Nat} (h:RowAt sz f w l oa cap b o) (hb:Below w.heap.size w w'):RowAt sz f w' l oa cap b o:=by
 refine ⟨h.len,h.max,fun h0=>⟨(h.at0 h0).1,Nat.lt_of_lt_of_le (h.at0 h0).2 hb.size⟩,fun k i hk j u hu=>?_,h.ok⟩
 have hlt:b < w.heap.size:=(h.at0 (by have:=zbs hk;omega)).2
 exact (hb.cell (p:=⟨b,o + k * sz + j,none⟩) hlt).trans (h.cell k i hk j u hu)
theorem Row.later {sz:Nat} {f:Itm → List Value} {w w':World} {l:List Itm} {v:Value} (h:Row sz f w l v) (hb:Below w.heap.size w w'):Row sz f w' l v:=by
 obtain ⟨oa,cap,b,o,e,h⟩:=h
 exact ⟨oa,cap,b,o,e,h.later hb⟩
theorem zav {w:World} {i:Itm} {b o:Nat} (h:∀ j u,(ic i)[j]? = some u → w.cell? ⟨b,o + j,none⟩ = some u) :
   w.cell? ⟨b,o,none⟩ = some (.string i.id) ∧ w.cell? ⟨b,o + 1,none⟩ = some (.int .i64 i.r) ∧ w.cell? ⟨b,o + 2,none⟩ = some (.int .i64 i.c) ∧ w.cell? ⟨b,o + 3,none⟩ = some (.int .i64 i.st) ∧ w.cell? ⟨b,o + 4,none⟩ = some (.string i.kd) ∧ w.cell? ⟨b,o + 5,none⟩ = some (.int .i64 i.num) ∧ w.cell? ⟨b,o + 6,none⟩ = some (.complex .f64 i.x i.y) ∧ w.cell? ⟨b,o + 7,none⟩ = some (.bool i.d) :=
 ⟨h 0 _ rfl,h 1 _ rfl,h 2 _ rfl,h 3 _ rfl,h 4 _ rfl,h 5 _ rfl,h 6 _ rfl,h 7 _ rfl⟩
theorem zxh {w:World} {i:Itm} {b o:Nat} (h:∀ j u,(rc i)[j]? = some u → w.cell? ⟨b,o + j,none⟩ = some u) :
   w.cell? ⟨b,o,none⟩ = some (.string i.id) ∧ w.cell? ⟨b,o + 1,none⟩ = some (.int .i64 i.r) ∧ w.cell? ⟨b,o + 2,none⟩ = some (.int .i64 i.c) ∧ w.cell? ⟨b,o + 3,none⟩ = some (.int .i64 i.st) ∧ w.cell? ⟨b,o + 4,none⟩ = some (.string i.kd) ∧ w.cell? ⟨b,o + 5,none⟩ = some (.int .i64 i.num) ∧ w.cell? ⟨b,o + 6,none⟩ = some (.float .f64 i.x) ∧ w.cell? ⟨b,o + 7,none⟩ = some (.float .f64 i.y) ∧ w.cell? ⟨b,o + 8,none⟩ = some (.bool i.d) :=
 ⟨h 0 _ rfl,h 1 _ rfl,h 2 _ rfl,h 3 _ rfl,h 4 _ rfl,h 5 _ rfl,h 6 _ rfl,h 7 _ rfl,h 8 _ rfl⟩
def zas (l:List Itm):List Value:=l.flatMap ic
theorem zc5 (l:List Itm):(zas l).length = l.length * 8:=by
 induction l with
 | nil=>rfl
 | cons i l ih=>simp only [zas,List.flatMap_cons,List.length_append,List.length_cons,List.length_nil] at *;omega
theorem zhf (l m:List Itm):zas (l ++ m) = zas l ++ zas m:=by simp [zas]
theorem zr4 (i:Itm):zas [i] = ic i:=by simp [zas]
theorem zex (l:List Itm) (k:Nat) (i:Itm) (hk:l[k]? = some i) (j:Nat) (hj:j < 8):(zas l)[k * 8 + j]? = (ic i)[j]?:=by
 induction l generalizing k with
 | nil=>simp at hk
 | cons a l ih =>
   have e:zas (a :: l) = ic a ++ zas l:=rfl
   rw [e]
   cases k with
   | zero =>
     simp at hk;subst hk
     rw [Nat.zero_mul,Nat.zero_add,List.getElem?_append_left (by simpa using hj)]
   | succ k =>
     simp at hk
     rw [List.getElem?_append_right (by simp;omega),show (k + 1) * 8 + j - (ic a).length = k * 8 + j by simp;omega]
     exact ih k hk
def OwnI (w:World) (base:Nat) (l:List Itm) (v:Value):Prop:=w.ownsRow base 69 8 v l.length (zas l)
theorem OwnI.nil (w:World) (base:Nat):OwnI w base [] (.slice none 0 0):=World.ownsRow_nil _ _ _ _
theorem OwnI.later {w w':World} {base:Nat} {l:List Itm} {v:Value} (h:OwnI w base l v) (hb:Below w.heap.size w w'):OwnI w' base l v:=zau h hb
theorem OwnI.alloc {w:World} {base:Nat} {l:List Itm} {v:Value} (h:OwnI w base l v) (o:Obj):OwnI (w.alloc o) base l v:=h.later ((Below.refl _ _).alloc (Nat.le_refl _) _)
theorem OwnI.mono {w:World} {base base':Nat} {l:List Itm} {v:Value} (h:OwnI w base l v) (hb:base' ≤ base):OwnI w base' l v:=by
 obtain ⟨h1,h2⟩:=h
 refine ⟨h1,?_⟩
 rcases h2 with h2 | ⟨g,cap,cur,hv,hg,r⟩
 · exact .inl h2
 · exact .inr ⟨g,cap,cur,hv,Nat.le_trans hb hg,r⟩
theorem OwnI.row {w:World} {base:Nat} {l:List Itm} {v:Value} (h:OwnI w base l v) (hok:∀ i ∈ l,i.id.size ≤ maxLen ∧ i.kd.size ≤ maxLen):Row 8 ic w l v:=by
 obtain ⟨oa,cap,g,e,h1,h2,hg⟩:=zan h
 subst e
 refine ⟨oa,cap,g,0,rfl,h1,h2,fun h0=>⟨(hg h0).1,(hg h0).2.2⟩,fun k i hk j u hu=>?_,hok⟩
 have hlt:=zbs hk
 obtain ⟨rfl,_⟩:=hg (by omega)
 have hj:j < 8:=(List.getElem?_eq_some_iff.1 hu).1
 unfold OwnI at h
 rw [Nat.zero_add,h.cellAt (k * 8 + j) (by omega),zex l k i hk j hj]
 exact hu
theorem zcw (i:Itm):∀ u ∈ ic i,u.oneCell' = true:=by
 intro u hu
 simp only [ic,List.mem_cons,List.not_mem_nil,or_false] at hu
 rcases hu with rfl | rfl | rfl | rfl | rfl | rfl | rfl | rfl <;> rfl
theorem zf1 {w:World} {i:Itm} {t:TypeId}:∀ j u,(ic i)[j]? = some u → (w.alloc (.cells #[.string i.id,.int .i64 i.r,.int .i64 i.c,.int .i64 i.st,.string i.kd,.int .i64 i.num,.complex .f64 i.x i.y,.bool i.d] t)).cell? ((⟨w.heap.size,0,none⟩:Addr).add j) = some u :=
 World.news_of_block (cs:=#[.string i.id,.int .i64 i.r,.int .i64 i.c,.int .i64 i.st,.string i.kd,.int .i64 i.num,.complex .f64 i.x i.y,.bool i.d]) (t:=t) (fr:=(0,0)) (heap_alloc_new w _)
theorem OwnI.push {w:World} {base n g cap:Nat} {l:List Itm} {i:Itm} (h:w.ownsRow base 69 8 (.slice (some ⟨g,0,none⟩) n cap) n (zas l ++ ic i)) (hn:n = l.length + 1):OwnI w base (l ++ [i]) (.slice (some ⟨g,0,none⟩) n cap):=by
 unfold OwnI
 rw [zhf,zr4,List.length_append]
 subst hn
 exact h
theorem zie {w:World} {l:List Itm} {oa:Option Addr} {cap b o n:Nat} (h:RowAt 8 ic w l oa cap b o) (hn:l.length = n):∀ j u,(zas l)[j]? = some u → w.cell? ((⟨b,o,none⟩:Addr).add j) = some u:=by
 intro j u hu
 have hadd:(⟨b,o,none⟩:Addr).add j = ⟨b,o + j,none⟩:=by unfold Addr.add;split <;> simp_all
 rw [hadd]
 have hj:=(List.getElem?_eq_some_iff.1 hu).1
 rw [zc5] at hj
 have hi:j / 8 < l.length:=by omega
 have hp:l[j / 8]? = some l[j / 8]:=List.getElem?_eq_getElem hi
 have e:j = j / 8 * 8 + j % 8:=by omega
 rw [e,zex _ _ _ hp _ (by omega)] at hu
 have:=h.cell _ _ hp _ _ hu
 rw [show o + j / 8 * 8 + j % 8 = o + j by omega] at this
 exact this
theorem zd2 {l:List Itm} {k:Nat} {i:Itm} (h:l[k]? = some i):l.take (k + 1) = l.take k ++ [i]:=by
 obtain ⟨hk,e⟩:=List.getElem?_eq_some_iff.1 h
 rw [List.take_succ_eq_append_getElem hk,e]
theorem OwnI.len {w:World} {base:Nat} {l:List Itm} {v:Value} (h:OwnI w base l v):∃ oa cap,v = .slice oa l.length cap:=by
 obtain ⟨oa,cap,g,e,_⟩:=zan h
 exact ⟨oa,cap,e⟩
theorem zbb {w0 w w':World} {B base:Nat} {l:List Itm} {v:Value} (h:OwnI w base l v) (hb:Below B w0 w) (hB:B ≤ base) (hg:w.grownBy w' v.ownBlock) (hsz:B ≤ w.heap.size):Below B w0 w' :=
 hb.grown hg hsz fun k hk=>by have:=(World.ownsRow.lt h k hk).1;omega
theorem zca:(Tryz.prog.info? 69).map (fun i=>(i.zero,i.size,i.bytes)) = some (some (.agg #[.string ⟨#[]⟩,.int .i64 0,.int .i64 0,.int .i64 0,.string ⟨#[]⟩,.int .i64 0,.complex .f64 0 0,.bool false]),8,88):=by kernel_rfl
abbrev zef (id:ByteArray) (r c st:Int) (kd:ByteArray) (n:Int) (x y:Nat) (d:Bool):Value :=
 .agg #[.string id,.int .i64 r,.int .i64 c,.int .i64 st,.string kd,.int .i64 n,.complex .f64 x y,.bool d]
abbrev rowV (id:ByteArray) (r c st:Int) (kd:ByteArray) (n:Int) (x y:Nat) (d:Bool):Value :=
 .agg #[.string id,.int .i64 r,.int .i64 c,.int .i64 st,.string kd,.int .i64 n,.float .f64 x,.float .f64 y,.bool d]
theorem zsi (id:ByteArray) (r c st:Int) (kd:ByteArray) (n:Int) (x y:Nat) (d:Bool) (w:World) :
   Calls Tryz.prog 71 #[rowV id r c st kd n x y d] w fun e w'=>e = .returned (zef id r c st kd n x y d) ∧ Below w.heap.size w w':=by
 go_enter Tryz.func71,Tryz.ntmps71
 go_wp2
 exact bodyPost_ret (v:=zef id r c st kd n x y d) (by simp [results,Tryz.results71,go_sem]) rfl ⟨rfl,((Below.refl _ _).alloc (Nat.le_refl _) _).alloc (by simp) _⟩
theorem zpa:∀ (x:List UInt8),Op.bytesLess x x = false
 | []=>by simp [Op.bytesLess]
 | a :: x=>by simp [Op.bytesLess,zpa x]
theorem zku:∀ {x y z:List UInt8},Op.bytesLess x y = true → Op.bytesLess y z = true → Op.bytesLess x z = true
 | [],[],_,h,_=>by simp [Op.bytesLess] at h
 | _ :: _,[],_,h,_=>by simp [Op.bytesLess] at h
 | _,_ :: _,[],_,h=>by simp [Op.bytesLess] at h
 | [],_ :: _,_ :: _,_,_=>by simp [Op.bytesLess]
 | a :: x,b :: y,c :: z,h1,h2=>by
   simp only [Op.bytesLess,Bool.or_eq_true,Bool.and_eq_true,decide_eq_true_eq,beq_iff_eq] at *
   rcases h1 with h1 | ⟨h1,h1'⟩ <;> rcases h2 with h2 | ⟨h2,h2'⟩
   · exact .inl (UInt8.lt_trans h1 h2)
   · subst h2;exact .inl h1
   · subst h1;exact .inl h2
   · subst h1 h2;exact .inr ⟨rfl,zku h1' h2'⟩
theorem zpb:∀ (x y:List UInt8),Op.bytesLess x y = true ∨ x = y ∨ Op.bytesLess y x = true
 | [],[]=>.inr (.inl rfl)
 | [],_ :: _=>.inl (by simp [Op.bytesLess])
 | _ :: _,[]=>.inr (.inr (by simp [Op.bytesLess]))
 | a :: x,b :: y=>by
   simp only [Op.bytesLess,Bool.or_eq_true,Bool.and_eq_true,decide_eq_true_eq,beq_iff_eq,List.cons.injEq]
   have tri:a < b ∨ a = b ∨ b < a:=by
     rcases Nat.lt_trichotomy a.toNat b.toNat with h | h | h
     · exact .inl (UInt8.lt_iff_toNat_lt.2 h)
     · exact .inr (.inl (UInt8.toNat_inj.1 h))
     · exact .inr (.inr (UInt8.lt_iff_toNat_lt.2 h))
   rcases tri with h | h | h
   · exact .inl (.inl h)
   · subst h
     rcases zpb x y with h | h | h
     · exact .inl (.inr ⟨rfl,h⟩)
     · exact .inr (.inl ⟨rfl,h⟩)
     · exact .inr (.inr (.inr ⟨rfl,h⟩))
   · exact .inr (.inr (.inl h))
theorem zld {a b:ByteArray} (h:a.toList = b.toList):a = b:=by
 rw [ByteArray.toList_eq,ByteArray.toList_eq] at h
 cases a;cases b;simp at h;subst h;rfl
def lsB (a b:ByteArray):Bool:=Op.bytesLess a.toList b.toList
def gtB (a b:ByteArray):Bool:=!(Op.bytesLess a.toList b.toList || a.toList == b.toList)
def leB (a b:ByteArray):Bool:=Op.bytesLess a.toList b.toList || a.toList == b.toList
theorem zbg (a:ByteArray):lsB a a = false:=zpa _
theorem zbm {a b c:ByteArray} (h1:lsB a b = true) (h2:lsB b c = true):lsB a c = true:=zku h1 h2
theorem zdg (a b:ByteArray):lsB a b = true ∨ a = b ∨ lsB b a = true:=by
 rcases zpb a.toList b.toList with h | h | h
 · exact .inl h
 · exact .inr (.inl (zld h))
 · exact .inr (.inr h)
theorem zdq {a b:ByteArray} (h:lsB a b = true):lsB b a = false:=by
 cases e:lsB b a with
 | false=>rfl
 | true=>have:=zbm h e;rw [zbg] at this;cases this
theorem zfy {a b:ByteArray} (h:lsB a b = true):a ≠ b:=by
 intro e;subst e;rw [zbg] at h;cases h
theorem tl_eq {a b:ByteArray}:(a.toList == b.toList) = true ↔ a = b:=by
 rw [beq_iff_eq];exact ⟨zld,fun e=>by rw [e]⟩
theorem tl_ne {a b:ByteArray}:(a.toList == b.toList) = false ↔ a ≠ b:=by
 rw [beq_eq_false_iff_ne];exact ⟨fun h e=>h (by rw [e]),fun h e=>h (zld e)⟩
theorem le_iff {a b:ByteArray}:leB a b = true ↔ lsB a b = true ∨ a = b:=by
 unfold leB lsB
 rw [Bool.or_eq_true,tl_eq]
theorem zo9 {a b:ByteArray} (h:leB a b = false):lsB b a = true:=by
 rcases zdg a b with h1 | h1 | h1
 · have:leB a b = true:=le_iff.2 (.inl h1)
   rw [this] at h;cases h
 · have:leB a b = true:=le_iff.2 (.inr h1)
   rw [this] at h;cases h
 · exact h1
theorem zee (a b:ByteArray):gtB a b = lsB b a:=by
 have:gtB a b = !leB a b:=rfl
 rw [this]
 cases h:leB a b with
 | false=>rw [zo9 h];rfl
 | true =>
   rcases le_iff.1 h with h1 | h1
   · rw [zdq h1];rfl
   · subst h1;rw [zbg];rfl
def Rise (l:List ByteArray):Prop:=l.Pairwise fun a b=>lsB a b = true
theorem rise_cons {a:ByteArray} {l:List ByteArray}:Rise (a :: l) ↔ (∀ x ∈ l,lsB a x = true) ∧ Rise l:=List.pairwise_cons
theorem zps:∀ {l m:List ByteArray},Rise l → Rise m → (∀ x,x ∈ l ↔ x ∈ m) → l = m
 | [],[],_,_,_=>rfl
 | [],b :: m,_,_,h=>by have:=(h b).2 (by simp);simp at this
 | a :: l,[],_,_,h=>by have:=(h a).1 (by simp);simp at this
 | a :: l,b :: m,h1,h2,h=>by
   rw [rise_cons] at h1 h2
   have e:a = b:=by
     have ha:=(h a).1 (by simp)
     have hb:=(h b).2 (by simp)
     rcases List.mem_cons.1 ha with e | ha
     · exact e
     rcases List.mem_cons.1 hb with e | hb
     · exact e.symm
     have:=zbm (h1.1 b hb) (h2.1 a ha)
     rw [zbg] at this;cases this
   subst e
   congr 1
   refine zps h1.2 h2.2 fun x=>⟨fun hx=>?_,fun hx=>?_⟩
   · rcases List.mem_cons.1 ((h x).1 (by simp [hx])) with e | h'
     · subst e;have:=h1.1 x hx;rw [zbg] at this;cases this
     · exact h'
   · rcases List.mem_cons.1 ((h x).2 (by simp [hx])) with e | h'
     · subst e;have:=h2.1 x hx;rw [zbg] at this;cases this
     · exact h'
theorem zga {p:ByteArray → Bool} {l:List ByteArray} (h:Rise l):Rise (l.filter p):=List.Pairwise.filter p h
def FRel (F:Nat → List Itm) (len:Nat) (w:World) (lv iv:Value) (wr:World):Prop :=
 ∃ (k:Nat) (sv:Value),k ≤ len ∧ iv = .int .i64 k ∧ sv = lv ∧ Hid (OwnI wr w.heap.size (F k) sv) ∧ Hid (Below w.heap.size w wr)
theorem zjb (l:List Itm) (v:Value) (w:World) (hR:Row 9 rc w l v) (hlen:l.length ≤ 10000) :
   Calls Tryz.prog 34 #[v] w fun e w'=>∃ v',e = .returned v' ∧ OwnI w' w.heap.size l v' ∧ Below w.heap.size w w':=by
 obtain ⟨oa,cap,b,o,rfl,hr⟩:=hR
 obtain ⟨i0,hi,hz0,hz1,hz2⟩:=info_parts zca
 have HR:=y04h hr
 have hcap:=hr.len
 have hmax:=hr.max
 unfold maxLen at hmax
 clear hr
 generalize hn:l.length = len at *
 have HN:=y04h hn
 clear hn
 go_enter Tryz.func34,Tryz.ntmps34
 go_wp2_with fail
 go_loopw [3,4] (fun lv iv wr=>FRel (fun k=>l.take k) len w lv iv wr) (fun _ iv _=>len - (intOf iv).toNat)
 case atStart=>exact ⟨0,_,Nat.zero_le _,rfl,rfl,by unfold Hid;exact OwnI.nil _ _,Below.refl _ _⟩
 case round =>
   obtain ⟨k,sv,hk,rfl,rfl,HO,HB⟩:=hrel
   replace HO:=y04h (show OwnI wr w.heap.size (l.take k) sv from HO.out)
   by_cases hlt:k < len
   · obtain ⟨i,hi9⟩:∃ i,l[k]? = some i:=⟨_,List.getElem?_eq_getElem (by rw [HN.out];exact hlt)⟩
     obtain ⟨rfl,hb0⟩:=HR.out.at0 (by rw [HN.out];omega)
     obtain ⟨c0,c1,c2,c3,c4,c5,c6,c7,c8⟩:=zxh (w:=wr) (fun j u hu=>(HB.out.cell (p:=⟨b,o + k * 9 + j,none⟩) hb0).trans (HR.out.cell k i hi9 j u hu))
     have zb:=Nat.lt_of_lt_of_le hb0 HB.out.size
     have C:=y04h (zsi i.id i.r i.c i.st i.kd i.num i.x i.y i.d wr)
     have hlk:(l.take k).length = k:=by rw [List.length_take,HN.out];omega
     have HI:=y04h hi9
     clear hi9
     have zw:=HB.out.size
     go_wp2_with fail
     refine C.out.mono ?_
     rintro e w2 ⟨rfl,hb2⟩
     have HO2:=y04h (HO.out.later hb2)
     have HB2:=y04h (HB.out.trans (hb2.mono HB.out.size))
     have zw2:=HB2.out.size
     clear hb2
     have HO3:=y04h (HO2.out.alloc (.cells #[.string i.id,.int .i64 i.r,.int .i64 i.c,.int .i64 i.st,.string i.kd,.int .i64 i.num,.complex .f64 i.x i.y,.bool i.d] 69))
     have HB3:=y04h (HB2.out.alloc zw2 (.cells #[.string i.id,.int .i64 i.r,.int .i64 i.c,.int .i64 i.st,.string i.kd,.int .i64 i.num,.complex .f64 i.x i.y,.bool i.d] 69))
     have hown:(w2.alloc (.cells #[.string i.id,.int .i64 i.r,.int .i64 i.c,.int .i64 i.st,.string i.kd,.int .i64 i.num,.complex .f64 i.x i.y,.bool i.d] 69)).ownsRow w.heap.size 69 8 sv k (zas (l.take k)):=by have:=HO3.out;unfold OwnI at this;rw [hlk] at this;exact this
     go_wp2_with (at_builtin;refine wpList_append_lies _ (by rfl) _ _ _ (by rfl) w.heap.size 69 i0 _ 8 88 Tryz.underlying41 hi hz0 hz1 hz2 rfl (by omega) sv k (zas (l.take k)) (by rfl) hown ⟨w2.heap.size,0,none⟩ 1 1 (ic i) (by rfl) (by rfl) zf1 (zcw i) (by omega) (by unfold maxLen;omega) (by omega) (by simp;omega) (w2.heap.size + 1) (by simp) ?_;intro g cap' w3 hown3 hgrow hat hlt3)
     have R1:=y04h (OwnI.push hown3 (by omega))
     have R2:=y04h (zbb HO3.out HB3.out (Nat.le_refl _) hgrow HB3.out.size)
     clear hown hown3 hgrow hat
     go_roundw
     case rel=>exact ⟨k + 1,_,by omega,by go_num,rfl,y04h (by show OwnI _ _ (l.take (k + 1)) _;rw [zd2 HI.out];exact R1.out),R2⟩
     case measure=>simp [intOf];omega
   · have e:len = k:=by omega
     subst e
     have h1:=HO.out
     rw [List.take_of_length_le (by rw [HN.out];omega)] at h1
     have H1:=y04h h1
     clear h1
     go_wp2_with fail
     go_ret
     exact ⟨_,rfl,H1.out,HB.out⟩
def neB (id:ByteArray) (i:Itm):Bool:=!(i.id.toList == id.toList)
theorem zgz {p:Itm → Bool} {l:List Itm} {k:Nat} {i:Itm} (h:l[k]? = some i) (hp:p i = true):(l.take (k + 1)).filter p = (l.take k).filter p ++ [i]:=by
 rw [zd2 h,List.filter_append];simp [hp]
theorem zfs {p:Itm → Bool} {l:List Itm} {k:Nat} {i:Itm} (h:l[k]? = some i) (hp:p i = false):(l.take (k + 1)).filter p = (l.take k).filter p:=by
 rw [zd2 h,List.filter_append];simp [hp]
theorem zgy {p:Itm → Bool} {l:List Itm} {k:Nat}:((l.take k).filter p).length ≤ k:=Nat.le_trans (List.length_filter_le _ _) (by rw [List.length_take];omega)
theorem zhm (l:List Itm) (id:ByteArray) (v:Value) (w:World) (hR:Row 8 ic w l v) (hlen:l.length ≤ 10000) :
   Calls Tryz.prog 149 #[v,.string id] w fun e w'=>∃ v',e = .returned v' ∧ OwnI w' w.heap.size (l.filter (neB id)) v' ∧ Below w.heap.size w w':=by
 obtain ⟨oa,cap,b,o,rfl,hr⟩:=hR
 obtain ⟨i0,hi,hz0,hz1,hz2⟩:=info_parts zca
 have HR:=y04h hr
 have hcap:=hr.len
 have hmax:=hr.max
 unfold maxLen at hmax
 clear hr
 generalize hn:l.length = len at *
 have HN:=y04h hn
 clear hn
 go_enter Tryz.func149,Tryz.ntmps149
 go_wp2_with fail
 go_loopw [5,6] (fun lv iv wr=>FRel (fun k=>(l.take k).filter (neB id)) len w lv iv wr) (fun _ iv _=>len - (intOf iv).toNat)
 case atStart=>exact ⟨0,_,Nat.zero_le _,rfl,rfl,by unfold Hid;exact OwnI.nil _ _,Below.refl _ _⟩
 case round =>
   obtain ⟨k,sv,hk,rfl,rfl,HO,HB⟩:=hrel
   replace HO:=y04h (show OwnI wr w.heap.size ((l.take k).filter (neB id)) sv from HO.out)
   by_cases hlt:k < len
   · obtain ⟨i,hi9⟩:∃ i,l[k]? = some i:=⟨_,List.getElem?_eq_getElem (by rw [HN.out];exact hlt)⟩
     obtain ⟨rfl,hb0⟩:=HR.out.at0 (by rw [HN.out];omega)
     obtain ⟨c0,c1,c2,c3,c4,c5,c6,c7⟩:=zav (w:=wr) (fun j u hu=>(HB.out.cell (p:=⟨b,o + k * 8 + j,none⟩) hb0).trans (HR.out.cell k i hi9 j u hu))
     have zb:=Nat.lt_of_lt_of_le hb0 HB.out.size
     have zw:=HB.out.size
     have HI:=y04h hi9
     clear hi9
     cases ht:(i.id.toList == id.toList)
     · have hp:neB id i = true:=by unfold neB;rw [ht];rfl
       have hfl:=zgy (p:=neB id) (l:=l) (k:=k)
       have HF:=y04h (zgz (p:=neB id) HI.out hp)
       have HO3:=y04h (HO.out.alloc (.cells #[.string i.id,.int .i64 i.r,.int .i64 i.c,.int .i64 i.st,.string i.kd,.int .i64 i.num,.complex .f64 i.x i.y,.bool i.d] 69))
       have HB3:=y04h (HB.out.alloc zw (.cells #[.string i.id,.int .i64 i.r,.int .i64 i.c,.int .i64 i.st,.string i.kd,.int .i64 i.num,.complex .f64 i.x i.y,.bool i.d] 69))
       have hown:(wr.alloc (.cells #[.string i.id,.int .i64 i.r,.int .i64 i.c,.int .i64 i.st,.string i.kd,.int .i64 i.num,.complex .f64 i.x i.y,.bool i.d] 69)).ownsRow w.heap.size 69 8 sv ((l.take k).filter (neB id)).length (zas ((l.take k).filter (neB id))):=HO3.out
       clear hp
       go_wp2_with (at_builtin;refine wpList_append_lies _ (by rfl) _ _ _ (by rfl) w.heap.size 69 i0 _ 8 88 Tryz.underlying41 hi hz0 hz1 hz2 rfl (by omega) sv ((l.take k).filter (neB id)).length (zas ((l.take k).filter (neB id))) (by rfl) hown ⟨wr.heap.size,0,none⟩ 1 1 (ic i) (by rfl) (by rfl) zf1 (zcw i) (by omega) (by unfold maxLen;omega) (by omega) (by simp;omega) (wr.heap.size + 1) (by simp) ?_;intro g cap' w3 hown3 hgrow hat hlt3)
       have R1:=y04h (OwnI.push hown3 rfl)
       have R2:=y04h (zbb HO3.out HB3.out (Nat.le_refl _) hgrow HB3.out.size)
       clear hown hown3 hgrow hat
       go_roundw
       case rel=>exact ⟨k + 1,_,by omega,by go_num,rfl,y04h (by show OwnI _ _ ((l.take (k + 1)).filter (neB id)) _;rw [HF.out];exact R1.out),R2⟩
       case measure=>simp [intOf];omega
     · have HF:=y04h (zfs (p:=neB id) HI.out (by unfold neB;rw [ht];rfl))
       go_wp2_with fail
       go_roundw
       case rel=>exact ⟨k + 1,_,by omega,by go_num,rfl,y04h (by show OwnI _ _ ((l.take (k + 1)).filter (neB id)) _;rw [HF.out];exact HO.out),HB⟩
       case measure=>simp [intOf];omega
   · have e:len = k:=by omega
     subst e
     have h1:=HO.out
     rw [List.take_of_length_le (by rw [HN.out];omega)] at h1
     have H1:=y04h h1
     clear h1
     go_wp2_with fail
     go_ret
     exact ⟨_,rfl,H1.out,HB.out⟩
def getI (l:List Itm) (id:ByteArray):Itm × Bool:=match l.find? (fun i=>i.id.toList == id.toList) with
 | some i=>(i,true)
 | none=>(Itm.zero,false)
theorem zy9 {p:Itm → Bool} {l:List Itm} {k:Nat} {i:Itm} (h:l[k]? = some i) (hp:p i = true) (hn:∀ j x,j < k → l[j]? = some x → p x = false):l.find? p = some i:=by
 induction l generalizing k with
 | nil=>simp at h
 | cons a l ih =>
   cases k with
   | zero=>simp at h;subst h;simp [List.find?_cons,hp]
   | succ k =>
     simp at h
     have:=hn 0 a (by omega) rfl
     rw [List.find?_cons,this]
     exact ih h fun j x hj hx=>hn (j + 1) x (by omega) (by simpa using hx)
theorem zza {p:Itm → Bool} {l:List Itm} (hn:∀ j x,j < l.length → l[j]? = some x → p x = false):l.find? p = none:=by
 rw [List.find?_eq_none]
 intro x hx
 obtain ⟨j,hj,e⟩:=List.mem_iff_getElem.1 hx
 have:=hn j x hj (by rw [List.getElem?_eq_getElem hj,e])
 simp [this]
def GRel (l:List Itm) (id:ByteArray) (len:Nat) (w:World) (iv:Value) (wr:World):Prop :=
 ∃ k:Nat,k ≤ len ∧ iv = .int .i64 k ∧ Hid (∀ j x,j < k → l[j]? = some x → (x.id.toList == id.toList) = false) ∧ Hid (Own wr w.heap.size #[.string ⟨#[]⟩,.int .i64 0,.int .i64 0,.int .i64 0,.string ⟨#[]⟩,.int .i64 0,.complex .f64 0 0,.bool false] 69) ∧ Hid (Below w.heap.size w wr)
theorem zfl (l:List Itm) (id:ByteArray) (v:Value) (w:World) (hR:Row 8 ic w l v) :
   Calls Tryz.prog 27 #[v,.string id] w fun e w'=>e = .returned (.tuple #[iV (getI l id).1,.bool (getI l id).2]) ∧ Below w.heap.size w w':=by
 obtain ⟨oa,cap,b,o,rfl,hr⟩:=hR
 have HR:=y04h hr
 have hcap:=hr.len
 have hmax:=hr.max
 unfold maxLen at hmax
 clear hr
 generalize hg:getI l id = gg at *
 have HG:=y04h hg
 clear hg
 generalize hn:l.length = len at *
 have HN:=y04h hn
 clear hn
 go_enter Tryz.func27,Tryz.ntmps27
 go_wp2_with fail
 go_loopw [6] (fun iv wr=>GRel l id len w iv wr) (fun iv _=>len - (intOf iv).toNat)
 case atStart=>exact ⟨0,Nat.zero_le _,rfl,fun j x hj=>absurd hj (by omega),by unfold Hid;exact Own.new _ _ _,by unfold Hid;exact (Below.refl _ _).alloc (Nat.le_refl _) _⟩
 case round =>
   obtain ⟨k,hk,rfl,HS,HO,HB⟩:=hrel
   by_cases hlt:k < len
   · obtain ⟨i,hi9⟩:∃ i,l[k]? = some i:=⟨_,List.getElem?_eq_getElem (by rw [HN.out];exact hlt)⟩
     obtain ⟨rfl,hb0⟩:=HR.out.at0 (by rw [HN.out];omega)
     obtain ⟨c0,c1,c2,c3,c4,c5,c6,c7⟩:=zav (w:=wr) (fun j u hu=>(HB.out.cell (p:=⟨b,o + k * 8 + j,none⟩) hb0).trans (HR.out.cell k i hi9 j u hu))
     have zb:=Nat.lt_of_lt_of_le hb0 HB.out.size
     have HI:=y04h hi9
     clear hi9
     cases ht:(i.id.toList == id.toList)
     · have HS2:=y04h (show ∀ j x,j < k + 1 → l[j]? = some x → (x.id.toList == id.toList) = false from fun j x hj hx=>by
         by_cases e:j = k
         · subst e;rw [HI.out] at hx;cases hx;exact ht
         · exact HS.out j x (by omega) hx)
       go_wp2_with fail
       go_roundw
       case rel=>exact ⟨k + 1,by omega,by go_num,HS2.out,HO,HB⟩
       case measure=>simp [intOf];omega
     · have E:=y04h (show gg = (i,true) by rw [← HG.out];unfold getI;rw [zy9 HI.out ht HS.out])
       have l1:=HO.out.cell
       have f1:=HO.out.free
       have z1:=HO.out.lt
       have hne:b ≠ w.heap.size:=by omega
       go_wp2_with fail
       clear ht
       -- found
       have key:=And.intro (zbl HO.out (.string i.id) (.int .i64 i.r) (.int .i64 i.c) (.int .i64 i.st) (.string i.kd) (.int .i64 i.num) (.complex .f64 i.x i.y) (.bool i.d)) (za3 (b:=w.heap.size) HB.out (Nat.le_refl _) (.string i.id) (.int .i64 i.r) (.int .i64 i.c) (.int .i64 i.st) (.string i.kd) (.int .i64 i.num) (.complex .f64 i.x i.y) (.bool i.d))
       clear l1 f1 z1 c0 c1 c2 c3 c4 c5 c6 c7
       unfold st8 at key
       revert key
       generalize World.setCell (World.setCell (World.setCell (World.setCell (World.setCell (World.setCell (World.setCell (World.setCell _ _ _) _ _) _ _) _ _) _ _) _ _) _ _) _ _ = WW
       rintro ⟨of,bf⟩
       have lf:=of.cell
       refine bodyPost_ret (v:=.tuple #[iV i,.bool true]) (by simp [results,Tryz.results27,go_sem,lf,Itm.zero]) rfl ⟨by rw [E.out],bf⟩
   · have E:=y04h (show gg = (Itm.zero,false) by
       rw [← HG.out];unfold getI
       rw [zza (fun j x hj hx=>HS.out j x (by rw [HN.out] at hj;omega) hx)])
     have l1:=HO.out.cell
     have f1:=HO.out.free
     have z1:=HO.out.lt
     go_wp2_with fail
     have key:=And.intro (zbl HO.out (.string ⟨#[]⟩) (.int .i64 0) (.int .i64 0) (.int .i64 0) (.string ⟨#[]⟩) (.int .i64 0) (.complex .f64 0 0) (.bool false)) (za3 (b:=w.heap.size) HB.out (Nat.le_refl _) (.string ⟨#[]⟩) (.int .i64 0) (.int .i64 0) (.int .i64 0) (.string ⟨#[]⟩) (.int .i64 0) (.complex .f64 0 0) (.bool false))
     clear l1 f1 z1
     unfold st8 at key
     revert key
     generalize World.setCell (World.setCell (World.setCell (World.setCell (World.setCell (World.setCell (World.setCell (World.setCell _ _ _) _ _) _ _) _ _) _ _) _ _) _ _) _ _ = WW
     rintro ⟨of,bf⟩
     have lf:=of.cell
     refine bodyPost_ret (v:=.tuple #[iV Itm.zero,.bool false]) (by simp [results,Tryz.results27,go_sem,lf,Itm.zero]) rfl ⟨by rw [E.out],bf⟩
def putI (l:List Itm) (x:Itm):List Itm:=(l.filter (fun i=>lsB i.id x.id) ++ [x]) ++ l.filter (fun i=>gtB i.id x.id)
def ztm (F:Nat → List Itm) (len:Nat) (X:Array Value) (w:World) (lv iv:Value) (wr:World):Prop :=
 ∃ (k:Nat) (sv:Value),k ≤ len ∧ iv = .int .i64 k ∧ sv = lv ∧ Hid (OwnI wr (w.heap.size + 1) (F k) sv) ∧ Hid (Own wr w.heap.size X 69) ∧ Hid (Below w.heap.size w wr)
theorem zdz (l:List Itm) (x:Itm) (v:Value) (w:World) (hR:Row 8 ic w l v) (hlen:l.length ≤ 10000) :
   Calls Tryz.prog 106 #[v,iV x] w fun e w'=>∃ v',e = .returned v' ∧ OwnI w' w.heap.size (putI l x) v' ∧ Below w.heap.size w w':=by
 obtain ⟨oa,cap,b,o,rfl,hr⟩:=hR
 obtain ⟨i0,hi,hz0,hz1,hz2⟩:=info_parts zca
 have HR:=y04h hr
 have hcap:=hr.len
 have hmax:=hr.max
 unfold maxLen at hmax
 clear hr
 generalize hn:l.length = len at *
 have HN:=y04h hn
 clear hn
 go_enter Tryz.func106,Tryz.ntmps106
 go_wp2_with fail
 go_loopw [5,6] (fun lv iv wr=>ztm (fun k=>(l.take k).filter (fun i=>lsB i.id x.id)) len #[.string x.id,.int .i64 x.r,.int .i64 x.c,.int .i64 x.st,.string x.kd,.int .i64 x.num,.complex .f64 x.x x.y,.bool x.d] w lv iv wr) (fun _ iv _=>len - (intOf iv).toNat)
 case atStart=>exact ⟨0,_,Nat.zero_le _,rfl,rfl,by unfold Hid;exact OwnI.nil _ _,by unfold Hid;exact Own.new _ _ _,by unfold Hid;exact (Below.refl _ _).alloc (Nat.le_refl _) _⟩
 case round =>
   obtain ⟨k,sv,hk,rfl,rfl,HO,HX,HB⟩:=hrel
   replace HO:=y04h (show OwnI wr (w.heap.size + 1) ((l.take k).filter (fun i=>lsB i.id x.id)) sv from HO.out)
   by_cases hlt:k < len
   · obtain ⟨i,hi9⟩:∃ i,l[k]? = some i:=⟨_,List.getElem?_eq_getElem (by rw [HN.out];exact hlt)⟩
     obtain ⟨rfl,hb0⟩:=HR.out.at0 (by rw [HN.out];omega)
     obtain ⟨c0,c1,c2,c3,c4,c5,c6,c7⟩:=zav (w:=wr) (fun j u hu=>(HB.out.cell (p:=⟨b,o + k * 8 + j,none⟩) hb0).trans (HR.out.cell k i hi9 j u hu))
     have zb:=Nat.lt_of_lt_of_le hb0 HB.out.size
     have r0:=fun dd os=>cell_regrown c0 dd os
     have LA:=fun dd os o=>HX.out.has.regrown dd os o
     have zw:=HB.out.size
     have HI:=y04h hi9
     have zx:=HX.out.lt
     have hk0:(0:Int) ≤ (k:Int):=by omega
     have hk1:(k:Int) < (len:Int):=by omega
     clear c0 c1 c2 c3 c4 c5 c6 c7 hi9
     cases ht:lsB i.id x.id
     · have HF:=y04h (zfs (p:=(fun i=>lsB i.id x.id)) HI.out ht)
       have hg:=ht
       unfold lsB at hg
       go_wp2_with fail
       refine wp_region_quiet_below (by kernel_rfl) (by kernel_rfl) ?_
       repeat (first | go_big_quiet_step (fail) | quiet_step (fail))
       refine wpQuiet_nil ?_
       intro w7 hw'
       have hb':=y04h (zac hw')
       clear hw'
       clear r0 LA
       have HO7:=y04h (HO.out.later hb'.out)
       have HX7:=y04h (HX.out.later hb'.out)
       have HB7:=y04h (HB.out.trans (hb'.out.mono HB.out.size))
       go_wp2_with fail
       go_roundw
       case rel=>exact ⟨k + 1,_,by omega,by go_num,rfl,y04h (by show OwnI _ _ ((l.take (k + 1)).filter (fun i=>lsB i.id x.id)) _;rw [HF.out];exact HO7.out),HX7,HB7⟩
       case measure=>simp [intOf];omega
     · have HF:=y04h (zgz (p:=(fun i=>lsB i.id x.id)) HI.out ht)
       have hg:=ht
       unfold lsB at hg
       have hfl:((l.take k).filter (fun i=>lsB i.id x.id)).length ≤ 20001:=by
         have h1:=zgy (p:=(fun i=>lsB i.id x.id)) (l:=l) (k:=k)
         have h2:=List.length_filter_le (fun i=>lsB i.id x.id) l
         have h3:=HN.out
         try simp only [List.length_append,List.length_cons,List.length_nil] at *
         omega
       obtain ⟨nk,hnk⟩:∃ nk,nk = ((l.take k).filter (fun i=>lsB i.id x.id)).length:=⟨_,rfl⟩
       rw [← hnk] at hfl
       go_wp2_with fail
       refine wp_region_quiet_below (by kernel_rfl) (by kernel_rfl) ?_
       repeat (first | go_big_quiet_step (fail) | quiet_step (fail))
       refine wpQuiet_nil ?_
       intro w7 hw'
       have hb':=y04h (zac hw')
       clear hw'
       clear r0 LA
       have HO7:=y04h (HO.out.later hb'.out)
       have HX7:=y04h (HX.out.later hb'.out)
       have HB7:=y04h (HB.out.trans (hb'.out.mono HB.out.size))
       have zw7:=HB7.out.size
       have zx7:=HX7.out.lt
       obtain ⟨d0,d1,d2,d3,d4,d5,d6,d7⟩:=zav (w:=w7) (fun j u hu=>(HB7.out.cell (p:=⟨b,o + k * 8 + j,none⟩) hb0).trans (HR.out.cell k i HI.out j u hu))
       have zb7:=Nat.lt_of_lt_of_le hb0 HB7.out.size
       have HO3:=y04h (HO7.out.alloc (.cells #[.string i.id,.int .i64 i.r,.int .i64 i.c,.int .i64 i.st,.string i.kd,.int .i64 i.num,.complex .f64 i.x i.y,.bool i.d] 69))
       have HX3:=y04h (HX7.out.alloc (.cells #[.string i.id,.int .i64 i.r,.int .i64 i.c,.int .i64 i.st,.string i.kd,.int .i64 i.num,.complex .f64 i.x i.y,.bool i.d] 69))
       have HB3:=y04h (HB7.out.alloc zw7 (.cells #[.string i.id,.int .i64 i.r,.int .i64 i.c,.int .i64 i.st,.string i.kd,.int .i64 i.num,.complex .f64 i.x i.y,.bool i.d] 69))
       have hown:(w7.alloc (.cells #[.string i.id,.int .i64 i.r,.int .i64 i.c,.int .i64 i.st,.string i.kd,.int .i64 i.num,.complex .f64 i.x i.y,.bool i.d] 69)).ownsRow (w.heap.size + 1) 69 8 sv nk (zas ((l.take k).filter (fun i=>lsB i.id x.id))):=by rw [hnk];exact HO3.out
       have HNK:=y04h hnk
       clear hnk
       go_wp2_with (at_builtin;refine wpList_append_lies _ (by rfl) _ _ _ (by rfl) (w.heap.size + 1) 69 i0 _ 8 88 Tryz.underlying41 hi hz0 hz1 hz2 rfl (by omega) sv nk (zas ((l.take k).filter (fun i=>lsB i.id x.id))) (by rfl) hown ⟨w7.heap.size,0,none⟩ 1 1 (ic i) (by rfl) (by rfl) zf1 (zcw i) (by omega) (by unfold maxLen;omega) (by omega) (by simp;omega) (w7.heap.size + 1) (by simp) ?_;intro g cap' w3 hown3 hgrow hat hlt3)
       have R1:=y04h (OwnI.push hown3 (by rw [HNK.out]))
       have R2:=y04h (zbb HO3.out HB3.out (by omega) hgrow HB3.out.size)
       have R3:=y04h (HX3.out.grown hgrow (zbr HO3.out (by omega)))
       clear hown hown3 hgrow hat
       go_roundw
       case rel=>exact ⟨k + 1,_,by omega,by go_num,rfl,y04h (by show OwnI _ _ ((l.take (k + 1)).filter (fun i=>lsB i.id x.id)) _;rw [HF.out];first | exact R1.out | (rw [← List.append_assoc];exact R1.out)),R3,R2⟩
       case measure=>simp [intOf];omega
   · have e:len = k:=by omega
     subst e
     have h1:=HO.out
     rw [List.take_of_length_le (by rw [HN.out];omega)] at h1
     have HO:=y04h h1
     clear h1
     have l1:=HX.out.cell
     have zx:=HX.out.lt
     have zw:=HB.out.size
     have hfl:(l.filter (fun i=>lsB i.id x.id)).length ≤ 10000:=by
       have h2:=List.length_filter_le (fun i=>lsB i.id x.id) l
       have h3:=HN.out
       omega
     have HO3:=y04h (HO.out.alloc (.cells #[.string x.id,.int .i64 x.r,.int .i64 x.c,.int .i64 x.st,.string x.kd,.int .i64 x.num,.complex .f64 x.x x.y,.bool x.d] 69))
     have HX3:=y04h (HX.out.alloc (.cells #[.string x.id,.int .i64 x.r,.int .i64 x.c,.int .i64 x.st,.string x.kd,.int .i64 x.num,.complex .f64 x.x x.y,.bool x.d] 69))
     have HB3:=y04h (HB.out.alloc zw (.cells #[.string x.id,.int .i64 x.r,.int .i64 x.c,.int .i64 x.st,.string x.kd,.int .i64 x.num,.complex .f64 x.x x.y,.bool x.d] 69))
     have hown:(wr.alloc (.cells #[.string x.id,.int .i64 x.r,.int .i64 x.c,.int .i64 x.st,.string x.kd,.int .i64 x.num,.complex .f64 x.x x.y,.bool x.d] 69)).ownsRow (w.heap.size + 1) 69 8 sv (l.filter (fun i=>lsB i.id x.id)).length (zas (l.filter (fun i=>lsB i.id x.id))):=HO3.out
     go_wp2_with (at_builtin;refine wpList_append_lies _ (by rfl) _ _ _ (by rfl) (w.heap.size + 1) 69 i0 _ 8 88 Tryz.underlying41 hi hz0 hz1 hz2 rfl (by omega) sv (l.filter (fun i=>lsB i.id x.id)).length (zas (l.filter (fun i=>lsB i.id x.id))) (by rfl) hown ⟨wr.heap.size,0,none⟩ 1 1 (ic x) (by rfl) (by rfl) zf1 (zcw x) (by omega) (by unfold maxLen;omega) (by omega) (by simp;omega) (wr.heap.size + 1) (by simp) ?_;intro g cap' w3 hown3 hgrow hat hlt3)
     have R1:=y04h (OwnI.push hown3 rfl)
     have R2:=y04h (zbb HO3.out HB3.out (by omega) hgrow HB3.out.size)
     have R3:=y04h (HX3.out.grown hgrow (zbr HO3.out (by omega)))
     clear hown hown3 hgrow hat l1 HO HX HB HO3 HX3 HB3
     go_wp2_with fail
     go_loopw [5,7] (fun lv iv wr=>ztm (fun k=>(l.filter (fun i=>lsB i.id x.id) ++ [x]) ++ (l.take k).filter (fun i=>gtB i.id x.id)) len #[.string x.id,.int .i64 x.r,.int .i64 x.c,.int .i64 x.st,.string x.kd,.int .i64 x.num,.complex .f64 x.x x.y,.bool x.d] w lv iv wr) (fun _ iv _=>len - (intOf iv).toNat)
     case atStart=>exact ⟨0,_,Nat.zero_le _,rfl,rfl,y04h (by simpa using R1.out),R3,R2⟩
     case round =>
       obtain ⟨k,sv,hk,rfl,rfl,HO,HX,HB⟩:=hrel
       replace HO:=y04h (show OwnI wr (w.heap.size + 1) ((l.filter (fun i=>lsB i.id x.id) ++ [x]) ++ (l.take k).filter (fun i=>gtB i.id x.id)) sv from HO.out)
       by_cases hlt:k < len
       · obtain ⟨i,hi9⟩:∃ i,l[k]? = some i:=⟨_,List.getElem?_eq_getElem (by rw [HN.out];exact hlt)⟩
         obtain ⟨rfl,hb0⟩:=HR.out.at0 (by rw [HN.out];omega)
         obtain ⟨c0,c1,c2,c3,c4,c5,c6,c7⟩:=zav (w:=wr) (fun j u hu=>(HB.out.cell (p:=⟨b,o + k * 8 + j,none⟩) hb0).trans (HR.out.cell k i hi9 j u hu))
         have zb:=Nat.lt_of_lt_of_le hb0 HB.out.size
         have r0:=fun dd os=>cell_regrown c0 dd os
         have LA:=fun dd os o=>HX.out.has.regrown dd os o
         have zw:=HB.out.size
         have HI:=y04h hi9
         have zx:=HX.out.lt
         have hk0:(0:Int) ≤ (k:Int):=by omega
         have hk1:(k:Int) < (len:Int):=by omega
         clear c0 c1 c2 c3 c4 c5 c6 c7 hi9
         cases ht:gtB i.id x.id
         · have HF:=y04h (zfs (p:=(fun i=>gtB i.id x.id)) HI.out ht)
           have hg:=ht
           unfold gtB at hg
           go_wp2_with fail
           refine wp_region_quiet_below (by kernel_rfl) (by kernel_rfl) ?_
           repeat (first | go_big_quiet_step (fail) | quiet_step (fail))
           refine wpQuiet_nil ?_
           intro w7 hw'
           have hb':=y04h (zac hw')
           clear hw'
           clear r0 LA
           have HO7:=y04h (HO.out.later hb'.out)
           have HX7:=y04h (HX.out.later hb'.out)
           have HB7:=y04h (HB.out.trans (hb'.out.mono HB.out.size))
           go_wp2_with fail
           go_roundw
           case rel=>exact ⟨k + 1,_,by omega,by go_num,rfl,y04h (by show OwnI _ _ ((l.filter (fun i=>lsB i.id x.id) ++ [x]) ++ (l.take (k + 1)).filter (fun i=>gtB i.id x.id)) _;rw [HF.out];exact HO7.out),HX7,HB7⟩
           case measure=>simp [intOf];omega
         · have HF:=y04h (zgz (p:=(fun i=>gtB i.id x.id)) HI.out ht)
           have hg:=ht
           unfold gtB at hg
           have hfl:((l.filter (fun i=>lsB i.id x.id) ++ [x]) ++ (l.take k).filter (fun i=>gtB i.id x.id)).length ≤ 20001:=by
             have h1:=zgy (p:=(fun i=>gtB i.id x.id)) (l:=l) (k:=k)
             have h2:=List.length_filter_le (fun i=>lsB i.id x.id) l
             have h3:=HN.out
             try simp only [List.length_append,List.length_cons,List.length_nil] at *
             omega
           obtain ⟨nk,hnk⟩:∃ nk,nk = ((l.filter (fun i=>lsB i.id x.id) ++ [x]) ++ (l.take k).filter (fun i=>gtB i.id x.id)).length:=⟨_,rfl⟩
           rw [← hnk] at hfl
           go_wp2_with fail
           refine wp_region_quiet_below (by kernel_rfl) (by kernel_rfl) ?_
           repeat (first | go_big_quiet_step (fail) | quiet_step (fail))
           refine wpQuiet_nil ?_
           intro w7 hw'
           have hb':=y04h (zac hw')
           clear hw'
           clear r0 LA
           have HO7:=y04h (HO.out.later hb'.out)
           have HX7:=y04h (HX.out.later hb'.out)
           have HB7:=y04h (HB.out.trans (hb'.out.mono HB.out.size))
           have zw7:=HB7.out.size
           have zx7:=HX7.out.lt
           obtain ⟨d0,d1,d2,d3,d4,d5,d6,d7⟩:=zav (w:=w7) (fun j u hu=>(HB7.out.cell (p:=⟨b,o + k * 8 + j,none⟩) hb0).trans (HR.out.cell k i HI.out j u hu))
           have zb7:=Nat.lt_of_lt_of_le hb0 HB7.out.size
           have HO3:=y04h (HO7.out.alloc (.cells #[.string i.id,.int .i64 i.r,.int .i64 i.c,.int .i64 i.st,.string i.kd,.int .i64 i.num,.complex .f64 i.x i.y,.bool i.d] 69))
           have HX3:=y04h (HX7.out.alloc (.cells #[.string i.id,.int .i64 i.r,.int .i64 i.c,.int .i64 i.st,.string i.kd,.int .i64 i.num,.complex .f64 i.x i.y,.bool i.d] 69))
           have HB3:=y04h (HB7.out.alloc zw7 (.cells #[.string i.id,.int .i64 i.r,.int .i64 i.c,.int .i64 i.st,.string i.kd,.int .i64 i.num,.complex .f64 i.x i.y,.bool i.d] 69))
           have hown:(w7.alloc (.cells #[.string i.id,.int .i64 i.r,.int .i64 i.c,.int .i64 i.st,.string i.kd,.int .i64 i.num,.complex .f64 i.x i.y,.bool i.d] 69)).ownsRow (w.heap.size + 1) 69 8 sv nk (zas ((l.filter (fun i=>lsB i.id x.id) ++ [x]) ++ (l.take k).filter (fun i=>gtB i.id x.id))):=by rw [hnk];exact HO3.out
           have HNK:=y04h hnk
           clear hnk
           go_wp2_with (at_builtin;refine wpList_append_lies _ (by rfl) _ _ _ (by rfl) (w.heap.size + 1) 69 i0 _ 8 88 Tryz.underlying41 hi hz0 hz1 hz2 rfl (by omega) sv nk (zas ((l.filter (fun i=>lsB i.id x.id) ++ [x]) ++ (l.take k).filter (fun i=>gtB i.id x.id))) (by rfl) hown ⟨w7.heap.size,0,none⟩ 1 1 (ic i) (by rfl) (by rfl) zf1 (zcw i) (by omega) (by unfold maxLen;omega) (by omega) (by simp;omega) (w7.heap.size + 1) (by simp) ?_;intro g cap' w3 hown3 hgrow hat hlt3)
           have R1:=y04h (OwnI.push hown3 (by rw [HNK.out]))
           have R2:=y04h (zbb HO3.out HB3.out (by omega) hgrow HB3.out.size)
           have R3:=y04h (HX3.out.grown hgrow (zbr HO3.out (by omega)))
           clear hown hown3 hgrow hat
           go_roundw
           case rel=>exact ⟨k + 1,_,by omega,by go_num,rfl,y04h (by show OwnI _ _ ((l.filter (fun i=>lsB i.id x.id) ++ [x]) ++ (l.take (k + 1)).filter (fun i=>gtB i.id x.id)) _;rw [HF.out];first | exact R1.out | (rw [← List.append_assoc];exact R1.out)),R3,R2⟩
           case measure=>simp [intOf];omega
       · have e:len = k:=by omega
         subst e
         have h1:=HO.out
         rw [List.take_of_length_le (by rw [HN.out];omega)] at h1
         have HO:=y04h h1
         clear h1
         go_wp2_with fail
         go_ret
         exact ⟨_,rfl,HO.out.mono (by omega),HB.out⟩
end Go.Proofs.YthnllikalobmeaaGreat
