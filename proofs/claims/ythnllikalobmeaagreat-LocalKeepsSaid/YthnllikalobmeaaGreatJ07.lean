/- Joined: StK, RefList2, ItemC, Pr. -/
import Derived.Test.YthnllikalobmeaaGreatJ01
import Derived.Deep.MidRow
import Derived.Laws.ResultCell
import Derived.Test.YthnllikalobmeaaGreatJ05
import Derived.Test.YthnllikalobmeaaGreatJ06
import Derived.Test.YthnllikalobmeaaGreatJ04
namespace Go.Proofs.YthnllikalobmeaaGreat
set_option linter.unusedVariables false
set_option linter.unusedSimpArgs false
set_option maxRecDepth 100000
set_option maxHeartbeats 8000000
open Go.RowKit
def zd1 (c:Array Value) (o:Nat):List Value → Array Value
 | []=>c
 | v :: r=>zd1 (c.setIfInBounds o v) (o + 1) r
theorem zny (vs:List Value):∀ (c:Array Value) (o:Nat),(zd1 c o vs).size = c.size:=by
 induction vs with
 | nil=>intro c o;rfl
 | cons v r ih=>intro c o;rw [zd1,ih];simp
theorem zp6 (vs:List Value):∀ (c:Array Value) (o j:Nat),j < c.size → (zd1 c o vs)[j]? = if o ≤ j ∧ j < o + vs.length then vs[j - o]? else c[j]?:=by
 induction vs with
 | nil=>intro c o j hj;rw [zd1,if_neg (by simp only [List.length_nil];omega)]
 | cons v r ih =>
   intro c o j hj
   rw [zd1,ih _ _ _ (by simpa using hj)]
   by_cases e:j = o
   · subst e
     rw [if_neg (by omega),if_pos (by simp)]
     simp [hj]
   · by_cases h:o + 1 ≤ j ∧ j < o + 1 + r.length
     · rw [if_pos h,if_pos (by simp only [List.length_cons];omega)]
       rw [show j - o = (j - (o + 1)) + 1 by omega,List.getElem?_cons_succ]
     · rw [if_neg h,if_neg (by simp only [List.length_cons];omega)]
       rw [Array.getElem?_setIfInBounds_ne (fun h'=>e h'.symm)]
theorem zp5 (c:Array Value) (vs:List Value) (h:vs.length = c.size):zd1 c 0 vs = vs.toArray:=by
 apply Array.ext_getElem?
 intro j
 by_cases hj:j < c.size
 · rw [zp6 vs c 0 j hj,if_pos (by omega)];simp
 · rw [Array.getElem?_eq_none (by rw [zny];omega),Array.getElem?_eq_none (by simp;omega)]
theorem Own.setsAt {b:Nat} {t:TypeId} (vs:List Value):∀ {w:World} {c:Array Value} (o:Nat),Own w b c t → Own (w.setCells b o vs) b (zd1 c o vs) t:=by
 induction vs with
 | nil=>intro w c o h;exact h
 | cons v r ih=>intro w c o h;exact ih (o + 1) (h.set o v)
theorem Own.sets {w:World} {b:Nat} {c:Array Value} {t:TypeId} (h:Own w b c t) (vs:List Value) (hl:vs.length = c.size):Own (w.setCells b 0 vs) b vs.toArray t:=by
 rw [← zp5 c vs hl];exact h.setsAt vs 0
theorem Own.setsFar {b b':Nat} {t:TypeId} {c:Array Value} (vs:List Value):∀ {w:World} (o:Nat),b' ≠ b → Own w b' c t → Own (w.setCells b o vs) b' c t:=by
 induction vs with
 | nil=>intro w o _ h;exact h
 | cons v r ih=>intro w o hb h;exact ih (o + 1) hb (h.setFar _ _ hb)
theorem zab {b B:Nat} {a:World} (hB:B ≤ b) (vs:List Value):∀ {w:World} (o:Nat),Below B a w → Below B a (w.setCells b o vs):=by
 induction vs with
 | nil=>intro w o h;exact h
 | cons v r ih=>intro w o h;exact ih (o + 1) (h.setCell hB v)
theorem Own.there {w:World} {b:Nat} {c:Array Value} {t:TypeId} (h:Own w b c t) {n:Nat} (hn:n = c.size):w.there b 0 n:=fun j hj=>by
 rw [Nat.zero_add,h.cell j]
 exact ⟨by rw [Array.getElem?_eq_getElem (by omega)];rfl,h.free j⟩
theorem Own.range {w:World} {b:Nat} {l:List Value} {t:TypeId} (h:Own w b l.toArray t):w.rangeAt b 0 l:=fun j v hv=>by
 rw [Nat.zero_add,h.cell j];simpa using hv
theorem zjk {P:Program} (a:Addr) (w:World):(asAddr (.pointer (some a))).run P w = .ok a w:=by simp [asAddr]
theorem zaj {P:Program} {fn:Func} {R:Ending → World → Prop} {a:Act} {w:World} {p u:Tmp} {ty:TypeId} {b:Nat} {l:List Value} {x:Value} {d:TypeDesc} (h:fn.results = #[.cell p ty,.tmp u])
   (hp:a.tmps.getD p undef = .pointer (some ⟨b,0,none⟩)) (hx:a.tmps.getD u undef = x) (hc:w.rangeAt b 0 l) (hu:P.underlying ty = some d) (hd:d.isRow = true) (hi:(P.info? ty).map (·.size) = some l.length)
   (hdf:a.defers = []) (hR:R (.returned (.tuple #[.agg l.toArray,x])) w):bodyPost P fn R .ret a w :=
 bodyPost_ret (by rw [results_cell_tmp h,hp,hx,zjk];simp only [Result.andThen_ok];rw [run_loadVar_mid w b 0 ty l d hc hu hd hi];rfl) hdf hR
theorem zmz {P:Program} {fn:Func} {R:Ending → World → Prop} {a:Act} {w:World} {p:Tmp} {ty:TypeId} {b:Nat} {l:List Value} {d:TypeDesc} (h:fn.results = #[.cell p ty])
   (hp:a.tmps.getD p undef = .pointer (some ⟨b,0,none⟩)) (hc:w.rangeAt b 0 l) (hu:P.underlying ty = some d) (hd:d.isRow = true) (hi:(P.info? ty).map (·.size) = some l.length)
   (hdf:a.defers = []) (hR:R (.returned (.agg l.toArray)) w):bodyPost P fn R .ret a w :=
 bodyPost_ret (by
   have e:=run_loadVar_mid (P:=P) w b 0 ty l d hc hu hd hi
   have hp2:a.tmps[p]?.getD undef = .pointer (some ⟨b,0,none⟩):=by rw [← hp];simp
   simp only [results,h]
   simp [Sem.run_bind,hp2,zjk,e]) hdf hR
def upB (a b:Itm):Bool:=!(Op.bytesLess b.id.toList a.id.toList || b.id.toList == a.id.toList)
def zce:List Itm → Bool
 | a :: b :: l=>upB a b && zce (b :: l)
 | _=>true
theorem rises_iff {l:List Itm}:zce l = true ↔ ∀ j a b,l[j]? = some a → l[j + 1]? = some b → upB a b = true:=by
 induction l with
 | nil=>simp [zce]
 | cons a l ih =>
   cases l with
   | nil=>simp [zce]
   | cons b l =>
     simp only [zce,Bool.and_eq_true,ih]
     constructor
     · rintro ⟨h1,h2⟩ j x y hx hy
       cases j with
       | zero=>simp at hx hy;subst hx hy;exact h1
       | succ j=>exact h2 j x y (by simpa using hx) (by simpa using hy)
     · intro h
       exact ⟨h 0 a b rfl rfl,fun j x y hx hy=>h (j + 1) x y (by simpa using hx) (by simpa using hy)⟩
theorem znw {l:List Itm} {j:Nat} {a b:Itm} (ha:l[j]? = some a) (hb:l[j + 1]? = some b) (h:upB a b = false):zce l = false:=by
 cases e:zce l with
 | false=>rfl
 | true=>rw [rises_iff.1 e j a b ha hb] at h;cases h
theorem zqj {P:Itm → Bool} {l:List Itm} {k:Nat} {i:Itm} (h:∀ j a,j < k → l[j]? = some a → P a = true) (hi:l[k]? = some i) (hp:P i = true):∀ j a,j < k + 1 → l[j]? = some a → P a = true:=by
 intro j a hj ha
 by_cases e:j = k
 · subst e;rw [hi] at ha;cases ha;exact hp
 · exact h j a (by omega) ha
theorem zqk {P:Itm → Bool} {l:List Itm} (h:∀ j a,j < l.length → l[j]? = some a → P a = true):l.all P = true:=by
 rw [List.all_eq_true]
 intro x hx
 obtain ⟨j,hj,e⟩:=List.mem_iff_getElem.1 hx
 exact h j x hj (by rw [List.getElem?_eq_getElem hj,e])
theorem zoy {P:Itm → Bool} {l:List Itm} {k:Nat} {i:Itm} (hi:l[k]? = some i) (hp:P i = false):l.all P = false:=by
 rw [List.all_eq_false]
 exact ⟨i,List.mem_of_getElem? hi,by rw [hp];simp⟩
def mayI (id:ByteArray) (r c st:Int) (kd:ByteArray) (n:Int) (x y:Nat):Bool :=
 zax id && (txtB kd && (verB r c && (inB st 1 1000000 && (inB n (-1000000) 1000000 && mayB x y))))
theorem zk7 (id:ByteArray) (r c st:Int) (kd:ByteArray) (n:Int) (x y:Nat) (d:Bool) (w:World) :
   Calls Tryz.prog 114 #[zd8 id r c st kd n x y d] w fun e w'=>e = .returned (.bool (mayI id r c st kd n x y)) ∧ Below w.heap.size w w':=by
 have H1:=fun w=>Lib.hid (zeb id w)
 have H2:=fun w=>Lib.hid (zjo kd w)
 have H3:=fun w=>Lib.hid (zlh r c w)
 have H4:=fun a b c w=>Lib.hid (zg9 a b c w)
 have H6:=fun w=>Lib.hid (zcj x y w)
 unfold mayI
 go_enter Tryz.func114,Tryz.ntmps114
 go_wp2_with (first | (go_at_call 97;refine ((H1 _).out).mono ?_;rintro e w' ⟨rfl,rfl⟩) | (go_at_call 142;refine ((H2 _).out).mono ?_;rintro e w' ⟨rfl,rfl⟩) | (go_at_call 152;refine ((H3 _).out).mono ?_;rintro e w' ⟨rfl,hb⟩;obtain ⟨hc,hf⟩:=zxp hb) | (go_at_call 153;refine ((H4 _ _ _ _).out).mono ?_;rintro e w' ⟨rfl,rfl⟩) | (go_at_call 150;refine ((H6 _).out).mono ?_;rintro e w' ⟨rfl,rfl⟩))
 all_goals
   go_ret
   refine ⟨zaa (by simp_all),?_⟩
   first | exact (Below.refl _ _).alloc (Nat.le_refl _) _ | exact zal hb
end Go.Proofs.YthnllikalobmeaaGreat
namespace Go.Proofs.YthnllikalobmeaaGreat
set_option linter.unusedVariables false
set_option linter.unusedSimpArgs false
set_option maxRecDepth 100000
set_option maxHeartbeats 8000000
inductive Pr where
 | node (op:Int) (text:ByteArray) (n:Int) (x y:Nat) (kids:List Pr)
namespace Pr
def op:Pr → Int | node o _ _ _ _ _=>o
def text:Pr → ByteArray | node _ t _ _ _ _=>t
def n:Pr → Int | node _ _ n _ _ _=>n
def x:Pr → Nat | node _ _ _ x _ _=>x
def y:Pr → Nat | node _ _ _ _ y _=>y
def kids:Pr → List Pr | node _ _ _ _ _ k=>k
theorem op_node (a:Int) (t:ByteArray) (c:Int) (d e:Nat) (k:List Pr):(node a t c d e k).op = a:=rfl
theorem text_node (a:Int) (t:ByteArray) (c:Int) (d e:Nat) (k:List Pr):(node a t c d e k).text = t:=rfl
theorem n_node (a:Int) (t:ByteArray) (c:Int) (d e:Nat) (k:List Pr):(node a t c d e k).n = c:=rfl
theorem x_node (a:Int) (t:ByteArray) (c:Int) (d e:Nat) (k:List Pr):(node a t c d e k).x = d:=rfl
theorem y_node (a:Int) (t:ByteArray) (c:Int) (d e:Nat) (k:List Pr):(node a t c d e k).y = e:=rfl
theorem kids_node (a:Int) (t:ByteArray) (c:Int) (d e:Nat) (k:List Pr):(node a t c d e k).kids = k:=rfl
theorem ind {P:Pr → Prop} (h:∀ op text n x y kids,(∀ k ∈ kids,P k) → P (node op text n x y kids)):∀ p,P p
 | node op text n x y kids=>h op text n x y kids (go kids)
where
 go:∀ l:List Pr,∀ k ∈ l,P k
   | [],k,hk=>absurd hk List.not_mem_nil
   | a :: l,k,hk=>by
     rcases List.mem_cons.1 hk with e | hk
     · rw [e];exact ind h a
     · exact go l k hk
mutual
def size:Pr → Nat | node _ _ _ _ _ k=>1 + sizes k
def sizes:List Pr → Nat | []=>0 | k :: l=>size k + sizes l
end
mutual
def depth:Pr → Nat | node _ _ _ _ _ k=>1 + depths k
def depths:List Pr → Nat | []=>0 | k :: l=>max (depth k) (depths l)
end
def bareB (t:ByteArray) (n:Int) (x y:Nat) (k:Nat):Bool:=decide (t.toList = []) && (decide (n = 0) && ((feq x 0 && feq y 0) && decide (k = 0)))
def partB (op:Int) (t:ByteArray) (n:Int) (x y:Nat) (k:Nat):Bool :=
 if op = 1 ∨ op = 2 then bareB t n x y k
 else if op = 3 ∨ op = 4 then txtB t && bareB ⟨#[]⟩ n x y k
 else if op = 5 ∨ op = 6 then (decide (-1000000 ≤ n) && decide (n ≤ 1000000)) && bareB t 0 x y k
 else if op = 7 then (mayB x y && (decide (0 ≤ n) && decide (n ≤ 8000000))) && bareB t 0 0 0 k
 else if op = 8 ∨ op = 9 then bareB t n x y 0
 else if op = 10 then decide (k = 1) && bareB t n x y 0
 else false
mutual
def all:Pr → Bool | node op t n x y k=>partB op t n x y k.length && alls k
def alls:List Pr → Bool | []=>true | k :: l=>all k && alls l
end
def fitsB (p:Pr) (s d:Int):Bool:=decide ((p.size:Int) ≤ s) && (decide ((p.depth:Int) ≤ d) && p.all)
def mayB (p:Pr):Bool:=p.fitsB 30 6
mutual
def same:Pr → Pr → Bool
 | node op t n x y k,node op' t' n' x' y' k'=>decide (op = op') && (decide (t.toList = t'.toList) && (decide (n = n') && ((feq x x' && feq y y') && sames k k')))
def sames:List Pr → List Pr → Bool
 | [],[]=>true
 | k :: l,k' :: l'=>same k k' && sames l l'
 | _,_=>false
end
theorem size_pos (p:Pr):1 ≤ p.size:=by cases p;simp [size]
theorem sizes_append (l m:List Pr):sizes (l ++ m) = sizes l + sizes m:=by
 induction l with
 | nil=>simp [sizes]
 | cons k l ih=>simp [sizes,ih];omega
theorem zk6 (l m:List Pr):depths (l ++ m) = max (depths l) (depths m):=by
 induction l with
 | nil=>simp [depths]
 | cons k l ih=>simp [depths,ih]
theorem znd (l m:List Pr):alls (l ++ m) = (alls l && alls m):=by
 induction l with
 | nil=>simp [alls]
 | cons k l ih=>simp [alls,ih,Bool.and_assoc]
theorem len_le_sizes (l:List Pr):l.length ≤ sizes l:=by
 induction l with
 | nil=>simp
 | cons k l ih=>simp [sizes];have:=size_pos k;omega
theorem size_mem {l:List Pr} {k:Pr} (h:k ∈ l):k.size ≤ sizes l:=by
 induction l with
 | nil=>simp at h
 | cons a l ih =>
   simp only [sizes]
   rcases List.mem_cons.1 h with rfl | h
   · omega
   · have:=ih h;omega
theorem depth_mem {l:List Pr} {k:Pr} (h:k ∈ l):k.depth ≤ depths l:=by
 induction l with
 | nil=>simp at h
 | cons a l ih =>
   simp only [depths]
   rcases List.mem_cons.1 h with rfl | h
   · omega
   · have:=ih h;omega
theorem all_mem {l:List Pr} {k:Pr} (h:k ∈ l) (ha:alls l = true):k.all = true:=by
 induction l with
 | nil=>simp at h
 | cons a l ih =>
   simp only [alls,Bool.and_eq_true] at ha
   rcases List.mem_cons.1 h with rfl | h
   · exact ha.1
   · exact ih h ha.2
theorem take_one {l:List Pr} {k:Nat} {p:Pr} (hp:l[k]? = some p):l.take (k + 1) = l.take k ++ [p]:=by
 obtain ⟨hk,e⟩:=List.getElem?_eq_some_iff.1 hp
 rw [List.take_succ_eq_append_getElem hk,e]
theorem sizes_take {l:List Pr} {k:Nat} {p:Pr} (hp:l[k]? = some p):sizes (l.take (k + 1)) = sizes (l.take k) + p.size:=by
 rw [take_one hp,sizes_append];simp [sizes]
theorem depths_take {l:List Pr} {k:Nat} {p:Pr} (hp:l[k]? = some p):depths (l.take (k + 1)) = max (depths (l.take k)) p.depth:=by
 rw [take_one hp,zk6];simp [depths]
theorem alls_take {l:List Pr} {k:Nat} {p:Pr} (hp:l[k]? = some p):alls (l.take (k + 1)) = (alls (l.take k) && p.all):=by
 rw [take_one hp,znd];simp [alls]
theorem sizes_take_le (l:List Pr) (k:Nat):sizes (l.take k) ≤ sizes l:=by
 have h:=sizes_append (l.take k) (l.drop k)
 rw [List.take_append_drop] at h;omega
theorem take_all (l:List Pr) {k:Nat} (h:l.length ≤ k):l.take k = l:=List.take_of_length_le h
theorem zkw:∀ {l m:List Pr},sames l m = true → l.length = m.length
 | [],[],_=>rfl
 | [],_ :: _,h=>by simp [sames] at h
 | _ :: _,[],h=>by simp [sames] at h
 | a :: l,b :: m,h=>by
   simp only [sames,Bool.and_eq_true] at h
   simp [zkw h.2]
theorem sames_not_len {l m:List Pr} (h:l.length ≠ m.length):sames l m = false:=by
 cases e:sames l m with
 | false=>rfl
 | true=>exact absurd (zkw e) h
theorem sames_at {l m:List Pr} {k:Nat} {p q:Pr} (hp:l[k]? = some p) (hq:m[k]? = some q) (h:same p q = false):sames l m = false:=by
 induction l generalizing m k with
 | nil=>simp at hp
 | cons a l ih =>
   cases m with
   | nil=>simp at hq
   | cons b m =>
     cases k with
     | zero =>
       simp at hp hq;subst hp hq;simp [sames,h]
     | succ k =>
       simp at hp hq
       simp [sames,ih hp hq]
theorem sames_take {l m:List Pr} {k:Nat} {p q:Pr} (hp:l[k]? = some p) (hq:m[k]? = some q) (h0:sames (l.take k) (m.take k) = true) (h:same p q = true):sames (l.take (k + 1)) (m.take (k + 1)) = true:=by
 induction l generalizing m k with
 | nil=>simp at hp
 | cons a l ih =>
   cases m with
   | nil=>simp at hq
   | cons b m =>
     cases k with
     | zero =>
       simp at hp hq;subst hp hq;simp [sames,h]
     | succ k =>
       simp at hp hq
       simp only [List.take_succ_cons,sames,Bool.and_eq_true] at h0 ⊢
       exact ⟨h0.1,ih hp hq h0.2⟩
theorem zbf {t:ByteArray} {n:Int} {x y k:Nat} (h:bareB t n x y k = true):feq x 0 = true ∧ feq y 0 = true:=by
 simp only [bareB,Bool.and_eq_true] at h
 exact h.2.2.1
theorem za7 {x z:Nat} (h:feq x z = true):feq x x = true:=by
 have h1:Fl.f64.order x z = some .eq:=by
   unfold feq at h;exact eq_of_beq h
 have h2:Fl.f64.order x x = some .eq:=by
   unfold Ieee.Format.order at *
   revert h1
   generalize Fl.f64.read x = X
   generalize Fl.f64.read z = Z
   intro h1
   cases X <;> cases Z <;> simp [Ieee.Datum.order] at h1 ⊢
 unfold feq
 have h3:FloatKind.f64.format.order x x = some .eq:=h2
 rw [h3];rfl
theorem all_same:∀ p:Pr,p.all = true → same p p = true:=by
 intro p
 induction p using ind with
 | h op t n x y k ih =>
   intro h
   simp only [all,Bool.and_eq_true] at h
   have hk:sames k k = true:=by
     have h2:=h.2
     clear h
     induction k with
     | nil=>simp [sames]
     | cons a l ihl =>
       simp only [alls,Bool.and_eq_true] at h2
       simp only [sames,Bool.and_eq_true]
       exact ⟨ih a (by simp) h2.1,ihl (fun b hb=>ih b (by simp [hb])) h2.2⟩
   have hf:feq x x = true ∧ feq y y = true:=by
     have h1:=h.1
     unfold partB at h1
     split at h1
     · exact ⟨za7 (zbf h1).1,za7 (zbf h1).2⟩
     split at h1
     · simp only [Bool.and_eq_true] at h1
       exact ⟨za7 (zbf h1.2).1,za7 (zbf h1.2).2⟩
     split at h1
     · simp only [Bool.and_eq_true] at h1
       exact ⟨za7 (zbf h1.2).1,za7 (zbf h1.2).2⟩
     split at h1
     · simp only [Bool.and_eq_true] at h1
       have h3:=h1.1.1
       unfold Proofs.YthnllikalobmeaaGreat.mayB at h3
       simp only [Bool.and_eq_true] at h3
       exact ⟨zfv h3.1,zfv h3.2⟩
     split at h1
     · exact ⟨za7 (zbf h1).1,za7 (zbf h1).2⟩
     split at h1
     · simp only [Bool.and_eq_true] at h1
       exact ⟨za7 (zbf h1.2).1,za7 (zbf h1.2).2⟩
     · cases h1
   simp [same,hk,hf.1,hf.2]
end Pr
end Go.Proofs.YthnllikalobmeaaGreat
