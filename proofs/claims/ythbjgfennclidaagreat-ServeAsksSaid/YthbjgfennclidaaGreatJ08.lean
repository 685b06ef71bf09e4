/- Joined: FarM, RegD, Pr, ItemM, RefNames. -/
import Derived.Test.YthbjgfennclidaaGreatJ05
import Derived.Deep.RegionHeld
import Derived.Test.YthbjgfennclidaaGreatJ07
import Derived.Test.YthbjgfennclidaaGreatJ04
/- How far two places are apart: plain mathematics. No walk. -/
namespace Go.Proofs.YthbjgfennclidaaGreat
set_option linter.unusedVariables false
set_option linter.unusedSimpArgs false
set_option maxRecDepth 100000
open Go.RowKit
def farV (a b c d : Nat) : Int := if mayB a b && mayB c d then (Fl.iv a - Fl.iv c) * (Fl.iv a - Fl.iv c) + (Fl.iv b - Fl.iv d) * (Fl.iv b - Fl.iv d) else -1
theorem may_parts {a b : Nat} (h : mayB a b = true) : Fl.IsInt a (Fl.iv a) ∧ Fl.IsInt b (Fl.iv b) ∧ (Fl.iv a).natAbs ≤ 1000 ∧ (Fl.iv b).natAbs ≤ 1000 := by
  unfold mayB at h
  simp only [Bool.and_eq_true] at h
  have h1 := Fl.wb_int h.1
  have h2 := Fl.wb_int h.2
  exact ⟨h1.1, h2.1, h1.2, h2.2⟩
theorem sq_bd {p : Int} (h1 : -2000 ≤ p) (h2 : p ≤ 2000) : 0 ≤ p * p ∧ p * p ≤ 4000000 := by
  constructor
  · rcases Int.lt_or_le p 0 with h | h
    · have := Int.mul_nonneg_of_nonpos_of_nonpos (Int.le_of_lt h) (Int.le_of_lt h); exact this
    · exact Int.mul_nonneg h h
  · have := Int.mul_nonneg (show 0 ≤ 2000 - p by omega) (show 0 ≤ 2000 + p by omega)
    have e : (2000 - p) * (2000 + p) = 4000000 - p * p := by
      rw [Int.sub_mul, Int.mul_add, Int.mul_add, Int.mul_comm 2000 p]; omega
    omega
theorem farV_bd (a b c d : Nat) : -1 ≤ farV a b c d ∧ farV a b c d ≤ 8000000 := by
  unfold farV
  split
  · rename_i h
    simp only [Bool.and_eq_true] at h
    obtain ⟨_, _, b1, b2⟩ := may_parts h.1
    obtain ⟨_, _, b3, b4⟩ := may_parts h.2
    have h1 := sq_bd (p := Fl.iv a - Fl.iv c) (by omega) (by omega)
    have h2 := sq_bd (p := Fl.iv b - Fl.iv d) (by omega) (by omega)
    omega
  · omega
def nearB (a b c d : Nat) (n : Int) : Bool := decide (0 ≤ farV a b c d) && decide (farV a b c d ≤ n)
end Go.Proofs.YthbjgfennclidaaGreat
/- Drawn regions whose last operations store where others loaded: the condition on the world is asked for behind those operations alone that do not wait for all loads. No walk. -/
namespace Go.Proofs.YthbjgfennclidaaGreat
set_option linter.unusedVariables false
set_option linter.unusedSimpArgs false
set_option maxRecDepth 100000
open Go
section
variable {P : Program} {ops : Array Oper} {Q : Exit → Act → World → Prop} {md : Region.Mode} {S : World → Prop} {D : Nat → Bool}
def late (P : Program) (md : Region.Mode) (ops : Array Oper) (Q : Exit → Act → World → Prop) (S : World → Prop) (D : Nat → Bool) (fuel : Nat) (listed : Array Bool) (a : Act) (w : World) : Prop :=
  match fuel with
  | 0 => Region.ready md ops listed = [] ∧ Q .normal a w
  | n + 1 => (Region.ready md ops listed = [] → Q .normal a w) ∧ ∀ i ∈ Region.ready md ops listed,
      wpOp P ops Q i (fun a' w' => (D i = false → S w') ∧ late P md ops Q S D n (listed.setIfInBounds i true) a' w') a w
def waitB (md : Region.Mode) (ops : Array Oper) (D : Nat → Bool) (i : Nat) : Bool :=
  (List.range ops.size).all fun j => !D j || (match ops[j]? with | some oj => oj.after.any (fun e => Region.binds md e && e.on == i) | none => true)
theorem wait_of {i j : Nat} {oj : Oper} {l : Array Bool} (h : waitB md ops D i = true) (hj : j ∈ Region.ready md ops l) (hoj : ops[j]? = some oj) (hi : l.getD i true = false) : D j = false := by
  cases hd : D j with
  | false => rfl
  | true =>
    exfalso
    have h1 := List.all_eq_true.1 h j (List.mem_range.2 (Array.getElem?_eq_some_iff.1 hoj).1)
    simp only [hd, hoj, Bool.not_true, Bool.false_or] at h1
    obtain ⟨e, he, hb⟩ := Array.any_eq_true'.1 h1
    simp only [Bool.and_eq_true, beq_iff_eq] at hb
    obtain ⟨_, o, ho, hall⟩ := mem_ready.1 hj
    rw [hoj] at ho
    cases ho
    have h2 := hall e he hb.1
    rw [hb.2] at h2
    rcases Nat.lt_or_ge i l.size with hl | hl
    · simp [hl] at hi h2; rw [hi] at h2; cases h2
    · simp [Array.getElem?_eq_none hl] at hi
end
end Go.Proofs.YthbjgfennclidaaGreat
/- Filters as trees: how large, how deep, whether they may be, whether they are the same. No walk. -/
namespace Go.Proofs.YthbjgfennclidaaGreat
set_option linter.unusedVariables false
set_option linter.unusedSimpArgs false
set_option maxRecDepth 100000
inductive Pr where
  | node (op : Int) (text : ByteArray) (n : Int) (x y : Nat) (kids : List Pr)
namespace Pr
def op : Pr → Int | node o _ _ _ _ _ => o
def text : Pr → ByteArray | node _ t _ _ _ _ => t
def n : Pr → Int | node _ _ n _ _ _ => n
def x : Pr → Nat | node _ _ _ x _ _ => x
def y : Pr → Nat | node _ _ _ _ y _ => y
def kids : Pr → List Pr | node _ _ _ _ _ k => k
theorem op_node (a : Int) (t : ByteArray) (c : Int) (d e : Nat) (k : List Pr) : (node a t c d e k).op = a := rfl
theorem text_node (a : Int) (t : ByteArray) (c : Int) (d e : Nat) (k : List Pr) : (node a t c d e k).text = t := rfl
theorem n_node (a : Int) (t : ByteArray) (c : Int) (d e : Nat) (k : List Pr) : (node a t c d e k).n = c := rfl
theorem x_node (a : Int) (t : ByteArray) (c : Int) (d e : Nat) (k : List Pr) : (node a t c d e k).x = d := rfl
theorem y_node (a : Int) (t : ByteArray) (c : Int) (d e : Nat) (k : List Pr) : (node a t c d e k).y = e := rfl
theorem kids_node (a : Int) (t : ByteArray) (c : Int) (d e : Nat) (k : List Pr) : (node a t c d e k).kids = k := rfl
theorem ind {P : Pr → Prop} (h : ∀ op text n x y kids, (∀ k ∈ kids, P k) → P (node op text n x y kids)) : ∀ p, P p
  | node op text n x y kids => h op text n x y kids (go kids)
where
  go : ∀ l : List Pr, ∀ k ∈ l, P k
    | [], k, hk => absurd hk List.not_mem_nil
    | a :: l, k, hk => by
      rcases List.mem_cons.1 hk with e | hk
      · rw [e]; exact ind h a
      · exact go l k hk
mutual
def size : Pr → Nat | node _ _ _ _ _ k => 1 + sizes k
def sizes : List Pr → Nat | [] => 0 | k :: l => size k + sizes l
end
mutual
def depth : Pr → Nat | node _ _ _ _ _ k => 1 + depths k
def depths : List Pr → Nat | [] => 0 | k :: l => max (depth k) (depths l)
end
def bareB (t : ByteArray) (n : Int) (x y : Nat) (k : Nat) : Bool := decide (t.toList = []) && (decide (n = 0) && ((feq x 0 && feq y 0) && decide (k = 0)))
def partB (op : Int) (t : ByteArray) (n : Int) (x y : Nat) (k : Nat) : Bool :=
  if op = 1 ∨ op = 2 then bareB t n x y k
  else if op = 3 ∨ op = 4 then txtB t && bareB ⟨#[]⟩ n x y k
  else if op = 5 ∨ op = 6 then (decide (-1000000 ≤ n) && decide (n ≤ 1000000)) && bareB t 0 x y k
  else if op = 7 then (mayB x y && (decide (0 ≤ n) && decide (n ≤ 8000000))) && bareB t 0 0 0 k
  else if op = 8 ∨ op = 9 then bareB t n x y 0
  else if op = 10 then decide (k = 1) && bareB t n x y 0
  else false
mutual
def all : Pr → Bool | node op t n x y k => partB op t n x y k.length && alls k
def alls : List Pr → Bool | [] => true | k :: l => all k && alls l
end
def fitsB (p : Pr) (s d : Int) : Bool := decide ((p.size : Int) ≤ s) && (decide ((p.depth : Int) ≤ d) && p.all)
def mayB (p : Pr) : Bool := p.fitsB 30 6
mutual
def same : Pr → Pr → Bool
  | node op t n x y k, node op' t' n' x' y' k' => decide (op = op') && (decide (t.toList = t'.toList) && (decide (n = n') && ((feq x x' && feq y y') && sames k k')))
def sames : List Pr → List Pr → Bool
  | [], [] => true
  | k :: l, k' :: l' => same k k' && sames l l'
  | _, _ => false
end
theorem size_pos (p : Pr) : 1 ≤ p.size := by cases p; simp [size]
theorem sizes_append (l m : List Pr) : sizes (l ++ m) = sizes l + sizes m := by
  induction l with
  | nil => simp [sizes]
  | cons k l ih => simp [sizes, ih]; omega
theorem depths_append (l m : List Pr) : depths (l ++ m) = max (depths l) (depths m) := by
  induction l with
  | nil => simp [depths]
  | cons k l ih => simp [depths, ih]
theorem alls_append (l m : List Pr) : alls (l ++ m) = (alls l && alls m) := by
  induction l with
  | nil => simp [alls]
  | cons k l ih => simp [alls, ih, Bool.and_assoc]
theorem len_le_sizes (l : List Pr) : l.length ≤ sizes l := by
  induction l with
  | nil => simp
  | cons k l ih => simp [sizes]; have := size_pos k; omega
theorem size_mem {l : List Pr} {k : Pr} (h : k ∈ l) : k.size ≤ sizes l := by
  induction l with
  | nil => simp at h
  | cons a l ih =>
    simp only [sizes]
    rcases List.mem_cons.1 h with rfl | h
    · omega
    · have := ih h; omega
theorem depth_mem {l : List Pr} {k : Pr} (h : k ∈ l) : k.depth ≤ depths l := by
  induction l with
  | nil => simp at h
  | cons a l ih =>
    simp only [depths]
    rcases List.mem_cons.1 h with rfl | h
    · omega
    · have := ih h; omega
theorem all_mem {l : List Pr} {k : Pr} (h : k ∈ l) (ha : alls l = true) : k.all = true := by
  induction l with
  | nil => simp at h
  | cons a l ih =>
    simp only [alls, Bool.and_eq_true] at ha
    rcases List.mem_cons.1 h with rfl | h
    · exact ha.1
    · exact ih h ha.2
theorem depth_le_size : ∀ p : Pr, p.depth ≤ p.size := by
  intro p
  induction p using ind with
  | h op t n x y k ih =>
    simp only [depth, size]
    have : depths k ≤ sizes k := by
      induction k with
      | nil => simp [depths]
      | cons a l ihl =>
        have h1 := ih a (by simp)
        have h2 := ihl fun b hb => ih b (by simp [hb])
        simp only [depths, sizes]; omega
    omega
theorem take_one {l : List Pr} {k : Nat} {p : Pr} (hp : l[k]? = some p) : l.take (k + 1) = l.take k ++ [p] := by
  obtain ⟨hk, e⟩ := List.getElem?_eq_some_iff.1 hp
  rw [List.take_succ_eq_append_getElem hk, e]
theorem sizes_take {l : List Pr} {k : Nat} {p : Pr} (hp : l[k]? = some p) : sizes (l.take (k + 1)) = sizes (l.take k) + p.size := by
  rw [take_one hp, sizes_append]; simp [sizes]
theorem depths_take {l : List Pr} {k : Nat} {p : Pr} (hp : l[k]? = some p) : depths (l.take (k + 1)) = max (depths (l.take k)) p.depth := by
  rw [take_one hp, depths_append]; simp [depths]
theorem alls_take {l : List Pr} {k : Nat} {p : Pr} (hp : l[k]? = some p) : alls (l.take (k + 1)) = (alls (l.take k) && p.all) := by
  rw [take_one hp, alls_append]; simp [alls]
theorem sizes_take_le (l : List Pr) (k : Nat) : sizes (l.take k) ≤ sizes l := by
  have h := sizes_append (l.take k) (l.drop k)
  rw [List.take_append_drop] at h; omega
theorem depths_take_le (l : List Pr) (k : Nat) : depths (l.take k) ≤ depths l := by
  have h := depths_append (l.take k) (l.drop k)
  rw [List.take_append_drop] at h; omega
theorem take_all (l : List Pr) {k : Nat} (h : l.length ≤ k) : l.take k = l := List.take_of_length_le h
theorem sames_len : ∀ {l m : List Pr}, sames l m = true → l.length = m.length
  | [], [], _ => rfl
  | [], _ :: _, h => by simp [sames] at h
  | _ :: _, [], h => by simp [sames] at h
  | a :: l, b :: m, h => by
    simp only [sames, Bool.and_eq_true] at h
    simp [sames_len h.2]
theorem sames_not_len {l m : List Pr} (h : l.length ≠ m.length) : sames l m = false := by
  cases e : sames l m with
  | false => rfl
  | true => exact absurd (sames_len e) h
theorem sames_at {l m : List Pr} {k : Nat} {p q : Pr} (hp : l[k]? = some p) (hq : m[k]? = some q) (h : same p q = false) : sames l m = false := by
  induction l generalizing m k with
  | nil => simp at hp
  | cons a l ih =>
    cases m with
    | nil => simp at hq
    | cons b m =>
      cases k with
      | zero =>
        simp at hp hq; subst hp hq; simp [sames, h]
      | succ k =>
        simp at hp hq
        simp [sames, ih hp hq]
theorem sames_take {l m : List Pr} {k : Nat} {p q : Pr} (hp : l[k]? = some p) (hq : m[k]? = some q) (h0 : sames (l.take k) (m.take k) = true) (h : same p q = true) : sames (l.take (k + 1)) (m.take (k + 1)) = true := by
  induction l generalizing m k with
  | nil => simp at hp
  | cons a l ih =>
    cases m with
    | nil => simp at hq
    | cons b m =>
      cases k with
      | zero =>
        simp at hp hq; subst hp hq; simp [sames, h]
      | succ k =>
        simp at hp hq
        simp only [List.take_succ_cons, sames, Bool.and_eq_true] at h0 ⊢
        exact ⟨h0.1, ih hp hq h0.2⟩
end Pr
end Go.Proofs.YthbjgfennclidaaGreat
/- Items by layer 2, of items as they are: plain mathematics. No walk. -/
namespace Go.Proofs.YthbjgfennclidaaGreat
set_option linter.unusedVariables false
set_option linter.unusedSimpArgs false
set_option maxRecDepth 100000
open Go.RowKit
def mayT (i : Itm) : Bool := mayI i.id i.r i.c i.st i.kd i.num i.x i.y
def cmpT (a b : Itm) : Int := cmpV a.st a.r a.c b.st b.r b.c
def behT (a b : Itm) : Bool := decide (cmpT a b = 1)
def sameT (a b : Itm) : Bool := sameB a.id a.r a.c a.st a.kd a.num a.x a.y a.d b.id b.r b.c b.st b.kd b.num b.x b.y b.d
theorem sameT_real {i : Itm} (hx : feq i.x i.x = true) (hy : feq i.y i.y = true) : sameT i i = true := by
  unfold sameT sameB
  simp [hx, hy]
theorem mayT_feq {i : Itm} (h : mayT i = true) : feq i.x i.x = true ∧ feq i.y i.y = true := by
  unfold mayT mayI mayB at h
  simp only [Bool.and_eq_true] at h
  exact ⟨feq_self h.2.2.2.2.2.1, feq_self h.2.2.2.2.2.2⟩
theorem refMayT_calls (i : Itm) (w : World) (hi : i.id.size ≤ maxLen) (hk : i.kd.size ≤ maxLen) :
    Calls Tryz.prog 106 #[iV i] w fun e w' => e = .returned (.bool (mayT i)) ∧ Below w.heap.size w w' :=
  refMay_calls i.id i.r i.c i.st i.kd i.num i.x i.y i.d w hi hk
theorem behT_calls (a b : Itm) (w : World) :
    Calls Tryz.prog 62 #[iV a, iV b] w fun e w' => e = .returned (.bool (behT a b)) ∧ Below w.heap.size w w' :=
  behind_calls a.id a.r a.c a.st a.kd a.num a.x a.y a.d b.id b.r b.c b.st b.kd b.num b.x b.y b.d w
theorem sameT_calls (a b : Itm) (w : World) :
    Calls Tryz.prog 138 #[iV a, iV b] w fun e w' => e = .returned (.bool (sameT a b)) ∧ Below w.heap.size w w' :=
  refSame_calls a.id a.r a.c a.st a.kd a.num a.x a.y a.d b.id b.r b.c b.st b.kd b.num b.x b.y b.d w
end Go.Proofs.YthbjgfennclidaaGreat
/- What is known: the document's Names, walked. -/
namespace Go.Proofs.YthbjgfennclidaaGreat
set_option linter.unusedVariables false
set_option linter.unusedSimpArgs false
set_option maxRecDepth 100000
open Go.RowKit
def NmRel (F : Nat → List ByteArray) (len : Nat) (X : Array Value) (w : World) (lv iv : Value) (wr : World) : Prop :=
  ∃ (k : Nat) (sv : Value), k ≤ len ∧ iv = .int .i64 k ∧ sv = lv ∧ Hid (OwnT wr w.heap.size (insAll (F k)) sv) ∧ Hid (Has wr w.heap.size X) ∧ Hid (Below w.heap.size w wr)
theorem flat_snoc {l : List Fr} {k : Nat} {f : Fr} (h : l[k]? = some f) : flatI (l.take (k + 1)) = flatI (l.take k) ++ f.ids := by
  unfold flatI; rw [takeT h, List.flatMap_append]; simp
theorem flat_take_sub {l : List Fr} {k : Nat} {s : ByteArray} (h : s ∈ flatI (l.take k)) : s ∈ flatI l := by
  unfold flatI at *
  rw [List.mem_flatMap] at *
  obtain ⟨f, hf, hs⟩ := h
  exact ⟨f, List.mem_of_mem_take hf, hs⟩
theorem flat_len {l : List Fr} {k : Nat} : (flatI (l.take k)).length ≤ (flatI l).length := by
  have h : flatI l = flatI (l.take k) ++ flatI (l.drop k) := by unfold flatI; rw [← List.flatMap_append, List.take_append_drop]
  rw [h, List.length_append]; omega
theorem fr_ok {w : World} {l : List Fr} {U : Nat → Value} {oa : Option Addr} {cap b o : Nat} (h : FrAt w l U oa cap b o) : ∀ s ∈ flatI l, s.size ≤ maxLen := by
  intro s hs
  unfold flatI at hs
  rw [List.mem_flatMap] at hs
  obtain ⟨f, hf, hs⟩ := hs
  obtain ⟨k, hk, e⟩ := List.mem_iff_getElem.1 hf
  exact (h.ids k f (by rw [List.getElem?_eq_getElem hk, e])).ok s hs
set_option maxRecDepth 100000 in
set_option maxHeartbeats 4000000 in
theorem names_calls (l : List Fr) (A : Nat → Int) (v : Value) (w : World) (hR : FrW w l v) (hlen : (flatI l).length ≤ 10000) :
    Calls Tryz.prog 160 #[knV A v] w fun e w' => ∃ v', e = .returned v' ∧ OwnT w' w.heap.size (insAll (flatI l)) v' ∧ Below w.heap.size w w' := by
  obtain ⟨U, oa, cap, b, o, rfl, hr⟩ := hR
  have HR := Lib.hid hr
  have HOK := Lib.hid (fr_ok hr)
  have hcap := hr.len
  have hmax := hr.max
  unfold maxLen at hmax
  clear hr
  have HFL := Lib.hid hlen
  clear hlen
  generalize hn : l.length = len at *
  have HN := Lib.hid hn
  clear hn
  go_enter Tryz.func160, Tryz.ntmps160
  go_wp2_with fail
  go_loopw [3, 4] (fun lv iv wr => NmRel (fun k => flatI (l.take k)) len (knA A (.slice oa len cap)) w lv iv wr) (fun _ iv _ => len - (intOf iv).toNat)
  case atStart => exact ⟨0, _, Nat.zero_le _, rfl, rfl, by unfold Hid; exact OwnT.nil _ _, by unfold Hid; exact Has.new _ _ _, by unfold Hid; exact (Below.refl _ _).alloc (Nat.le_refl _) _⟩
  case round =>
    obtain ⟨k, sv, hk, rfl, rfl, HO, HX, HB⟩ := hrel
    replace HO := Lib.hid (show OwnT wr w.heap.size (insAll (flatI (l.take k))) sv from HO.out)
    have l1 := HX.out.cell
    have z1 := HX.out.lt
    by_cases hlt : k < len
    · obtain ⟨f, hf⟩ : ∃ f, l[k]? = some f := ⟨_, List.getElem?_eq_getElem (by rw [HN.out]; exact hlt)⟩
      obtain ⟨rfl, hb0⟩ := HR.out.at0 (by rw [HN.out]; omega)
      obtain ⟨ou, cu, bu, oo, hu, ht⟩ := HR.out.ids k f hf
      obtain ⟨c0, _⟩ := fc_cells (w := wr) (fun j z hz => (HB.out.cell (p := ⟨b, o + k * 9 + j, none⟩) hb0).trans (HR.out.cell k f hf j z hz))
      rw [hu] at c0
      have hcu := ht.len
      have hmu := ht.max
      unfold maxLen at hmu
      have HT := Lib.hid ht
      have HF := Lib.hid hf
      have HU := Lib.hid hu
      clear ht hf hu
      generalize hn2 : f.ids.length = nf at *
      have HNF := Lib.hid hn2
      clear hn2
      have zb := Nat.lt_of_lt_of_le hb0 HB.out.size
      go_wp2_with fail
      clear l1 z1 c0 zb
      go_loopw [3, 5] (fun lv iv wr => NmRel (fun j => flatI (l.take k) ++ f.ids.take j) nf (knA A (.slice (some ⟨b, o, none⟩) len cap)) w lv iv wr) (fun _ iv _ => nf - (intOf iv).toNat)
      case atStart => exact ⟨0, _, Nat.zero_le _, rfl, rfl, by unfold Hid; simp only [List.take_zero, List.append_nil]; exact HO.out, HX, HB⟩
      case round =>
        clear HO HX HB
        obtain ⟨j, sv, hj, rfl, rfl, HO, HX, HB⟩ := hrel
        replace HO := Lib.hid (show OwnT wr w.heap.size (insAll (flatI (l.take k) ++ f.ids.take j)) sv from HO.out)
        have l1 := HX.out.cell
        have z1 := HX.out.lt
        obtain ⟨c0, _⟩ := fc_cells (w := wr) (fun j z hz => (HB.out.cell (p := ⟨b, o + k * 9 + j, none⟩) hb0).trans (HR.out.cell k f HF.out j z hz))
        rw [HU.out] at c0
        have zb := Nat.lt_of_lt_of_le hb0 HB.out.size
        by_cases hjt : j < nf
        · obtain ⟨s, hs⟩ : ∃ s, f.ids[j]? = some s := ⟨_, List.getElem?_eq_getElem (by rw [HNF.out]; exact hjt)⟩
          obtain ⟨rfl, hb1⟩ := HT.out.at0 (by rw [HNF.out]; omega)
          have d0 := (HB.out.cell (p := ⟨bu, oo + j, none⟩) hb1).trans (HT.out.cell j s hs)
          have zu := Nat.lt_of_lt_of_le hb1 HB.out.size
          have hsub : ∀ x ∈ flatI (l.take k) ++ f.ids.take j, x ∈ flatI l := by
            intro x hx
            rcases List.mem_append.1 hx with hx | hx
            · exact flat_take_sub hx
            · unfold flatI; rw [List.mem_flatMap]; exact ⟨f, List.mem_of_getElem? HF.out, List.mem_of_mem_take hx⟩
          have hle : (insAll (flatI (l.take k) ++ f.ids.take j)).length ≤ 10000 := by
            have h1 := len_all (flatI (l.take k) ++ f.ids.take j)
            have h2 := flat_len (l := l) (k := k + 1)
            rw [flat_snoc HF.out] at h2
            have h3 := HFL.out
            simp only [List.length_append, List.length_take] at h1 h2
            omega
          have C := Lib.hid (insert_calls _ s sv wr (HO.out.tx fun x hx => HOK.out x (hsub x (mem_all.1 hx))) hle)
          have HS := Lib.hid (show insAll (flatI (l.take k) ++ f.ids.take (j + 1)) = insB (insAll (flatI (l.take k) ++ f.ids.take j)) s by rw [takeT hs, ← List.append_assoc, insAll_snoc])
          clear hs hsub hle
          go_wp2_with (go_at_call 201; refine C.out.mono ?_; rintro e w2 ⟨v2, rfl, ho2, hb2⟩)
          have HO2 := Lib.hid (ho2.mono (base' := w.heap.size) HB.out.size)
          have HX2 := Lib.hid (HX.out.below hb2 HX.out.lt)
          have HB2 := Lib.hid (HB.out.trans (hb2.mono HB.out.size))
          clear ho2 hb2
          go_roundw
          case rel => exact ⟨j + 1, _, by omega, by go_num, rfl, Lib.hid (by show OwnT _ _ (insAll (flatI (l.take k) ++ f.ids.take (j + 1))) _; rw [HS.out]; exact HO2.out), HX2, HB2⟩
          case measure => simp [intOf]; omega
        · have e : nf = j := by omega
          have h1 := HO.out
          rw [show f.ids.take j = f.ids from List.take_of_length_le (by rw [HNF.out]; omega), ← flat_snoc HF.out] at h1
          have HO := Lib.hid h1
          clear h1
          go_wp2_with fail
          go_roundw
          case rel => exact ⟨k + 1, _, by omega, by go_num, rfl, HO, HX, HB⟩
          case measure => simp [intOf]; omega
    · have e : len = k := by omega
      have h1 := HO.out
      rw [List.take_of_length_le (by rw [HN.out]; omega)] at h1
      have HO := Lib.hid h1
      clear h1
      go_wp2_with fail
      go_ret
      exact ⟨_, rfl, HO.out, HB.out⟩
end Go.Proofs.YthbjgfennclidaaGreat
