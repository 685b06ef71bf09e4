/- Joined: VecL, FarM, ItemEq, Pr, ListW. -/
import Derived.Test.YtjepnaefkfkpcaaJ04
import Derived.Laws.StructEq
import Derived.Laws.Tables
import Derived.Laws.Cover2
import Derived.Test.YtjepnaefkfkpcaaJ02
import Derived.Test.YtjepnaefkfkpcaaJ05
/- '==' of two counts, as a law to be named. No walk. -/
namespace Go.Proofs.Ytjepnaefkfkpcaa
set_option linter.unusedVariables false
set_option linter.unusedSimpArgs false
set_option maxRecDepth 100000
open Go.RowKit
set_option maxHeartbeats 2000000 in
theorem eqVecL (a0 a1 a2 a3 a4 a5 a6 a7 b0 b1 b2 b3 b4 b5 b6 b7 : Int) (w : World) : (Op.equalIn 10000 28 (.agg #[.int .i64 a0, .int .i64 a1, .int .i64 a2, .int .i64 a3, .int .i64 a4, .int .i64 a5, .int .i64 a6, .int .i64 a7]) (.agg #[.int .i64 b0, .int .i64 b1, .int .i64 b2, .int .i64 b3, .int .i64 b4, .int .i64 b5, .int .i64 b6, .int .i64 b7])).run Try.prog w = .ok (a0 == b0 && (a1 == b1 && (a2 == b2 && (a3 == b3 && (a4 == b4 && (a5 == b5 && (a6 == b6 && (a7 == b7)))))))) w := by
  have ju := Try.underlying3
  have ja := Try.isAgg3
  have jz := Try.sizeOf3
  rw [show (10000 : Nat) = 9999 + 1 from rfl, Op.equalIn]
  simp only [Sem.run_bind, run_underlying Try.underlying28, Result.andThen_ok]
  simp only [Std.Legacy.Range.forIn_eq_forIn_range', Std.Legacy.Range.size, Nat.sub_zero, Nat.add_sub_cancel, Nat.div_one, List.range'_succ, List.range'_zero, List.forIn_cons, List.forIn_nil]
  go_simp
  by_cases h0 : a0 = b0
  case neg => simp [h0]
  by_cases h1 : a1 = b1
  case neg => simp [h0, h1]
  by_cases h2 : a2 = b2
  case neg => simp [h0, h1, h2]
  by_cases h3 : a3 = b3
  case neg => simp [h0, h1, h2, h3]
  by_cases h4 : a4 = b4
  case neg => simp [h0, h1, h2, h3, h4]
  by_cases h5 : a5 = b5
  case neg => simp [h0, h1, h2, h3, h4, h5]
  by_cases h6 : a6 = b6
  case neg => simp [h0, h1, h2, h3, h4, h5, h6]
  by_cases h7 : a7 = b7
  case neg => simp [h0, h1, h2, h3, h4, h5, h6, h7]
  simp [h0, h1, h2, h3, h4, h5, h6, h7]
theorem eqVec7 (A B : Nat → Int) (w : World) : (Op.equalIn 10000 28 (vecV A) (vecV B)).run Try.prog w = .ok (eqV A B) w := by
  have e : eqV A B = (A 0 == B 0 && (A 1 == B 1 && (A 2 == B 2 && (A 3 == B 3 && (A 4 == B 4 && (A 5 == B 5 && (A 6 == B 6 && A 7 == B 7))))))) := by
    unfold eqV
    simp [List.range_succ, Bool.and_assoc]
  rw [e]
  exact eqVecL _ _ _ _ _ _ _ _ _ _ _ _ _ _ _ _ w
end Go.Proofs.Ytjepnaefkfkpcaa
/- How far two places are apart: plain mathematics. No walk. -/
namespace Go.Proofs.Ytjepnaefkfkpcaa
set_option linter.unusedVariables false
set_option linter.unusedSimpArgs false
set_option maxRecDepth 100000
open Go.RowKit
def farV (a b c d : Nat) : Int := if mayB a b && mayB c d then (Fl.iv a - Fl.iv c) * (Fl.iv a - Fl.iv c) + (Fl.iv b - Fl.iv d) * (Fl.iv b - Fl.iv d) else -1
theorem may_parts {a b : Nat} (h : mayB a b = true) : Fl.IsInt a (Fl.iv a) ∧ Fl.IsInt b (Fl.iv b) ∧ (Fl.iv a).natAbs ≤ 1000 ∧ (Fl.iv b).natAbs ≤ 1000 := by
  unfold mayB at h
  simp only [Bool.and_eq_true] at h
  have h1 := Fl.wb_int h.1
  have h2 := Fl.wb_int h.2
  exact ⟨h1.1, h2.1, h1.2, h2.2⟩
theorem sq_bd {p : Int} (h1 : -2000 ≤ p) (h2 : p ≤ 2000) : 0 ≤ p * p ∧ p * p ≤ 4000000 := by
  constructor
  · rcases Int.lt_or_le p 0 with h | h
    · have := Int.mul_nonneg_of_nonpos_of_nonpos (Int.le_of_lt h) (Int.le_of_lt h); exact this
    · exact Int.mul_nonneg h h
  · have := Int.mul_nonneg (show 0 ≤ 2000 - p by omega) (show 0 ≤ 2000 + p by omega)
    have e : (2000 - p) * (2000 + p) = 4000000 - p * p := by
      rw [Int.sub_mul, Int.mul_add, Int.mul_add, Int.mul_comm 2000 p]; omega
    omega
def nearB (a b c d : Nat) (n : Int) : Bool := decide (0 ≤ farV a b c d) && decide (farV a b c d ≤ n)
end Go.Proofs.Ytjepnaefkfkpcaa
/- '==' of two items. No walk. -/
namespace Go.Proofs.Ytjepnaefkfkpcaa
set_option linter.unusedVariables false
set_option linter.unusedSimpArgs false
set_option maxRecDepth 100000
open Go.RowKit
end Go.Proofs.Ytjepnaefkfkpcaa
/- Filters as trees: how large, how deep, whether they may be, whether they are the same. No walk. -/
namespace Go.Proofs.Ytjepnaefkfkpcaa
set_option linter.unusedVariables false
set_option linter.unusedSimpArgs false
set_option maxRecDepth 100000
inductive Pr where
  | node (op : Int) (text : ByteArray) (n : Int) (x y : Nat) (kids : List Pr)
namespace Pr
def op : Pr → Int | node o _ _ _ _ _ => o
def text : Pr → ByteArray | node _ t _ _ _ _ => t
def n : Pr → Int | node _ _ n _ _ _ => n
def x : Pr → Nat | node _ _ _ x _ _ => x
def y : Pr → Nat | node _ _ _ _ y _ => y
def kids : Pr → List Pr | node _ _ _ _ _ k => k
theorem op_node (a : Int) (t : ByteArray) (c : Int) (d e : Nat) (k : List Pr) : (node a t c d e k).op = a := rfl
theorem text_node (a : Int) (t : ByteArray) (c : Int) (d e : Nat) (k : List Pr) : (node a t c d e k).text = t := rfl
theorem n_node (a : Int) (t : ByteArray) (c : Int) (d e : Nat) (k : List Pr) : (node a t c d e k).n = c := rfl
theorem x_node (a : Int) (t : ByteArray) (c : Int) (d e : Nat) (k : List Pr) : (node a t c d e k).x = d := rfl
theorem y_node (a : Int) (t : ByteArray) (c : Int) (d e : Nat) (k : List Pr) : (node a t c d e k).y = e := rfl
theorem kids_node (a : Int) (t : ByteArray) (c : Int) (d e : Nat) (k : List Pr) : (node a t c d e k).kids = k := rfl
theorem ind {P : Pr → Prop} (h : ∀ op text n x y kids, (∀ k ∈ kids, P k) → P (node op text n x y kids)) : ∀ p, P p
  | node op text n x y kids => h op text n x y kids (go kids)
where
  go : ∀ l : List Pr, ∀ k ∈ l, P k
    | [], k, hk => absurd hk List.not_mem_nil
    | a :: l, k, hk => by
      rcases List.mem_cons.1 hk with e | hk
      · rw [e]; exact ind h a
      · exact go l k hk
mutual
def size : Pr → Nat | node _ _ _ _ _ k => 1 + sizes k
def sizes : List Pr → Nat | [] => 0 | k :: l => size k + sizes l
end
mutual
def depth : Pr → Nat | node _ _ _ _ _ k => 1 + depths k
def depths : List Pr → Nat | [] => 0 | k :: l => max (depth k) (depths l)
end
def bareB (t : ByteArray) (n : Int) (x y : Nat) (k : Nat) : Bool := decide (t.toList = []) && (decide (n = 0) && ((feq x 0 && feq y 0) && decide (k = 0)))
def partB (op : Int) (t : ByteArray) (n : Int) (x y : Nat) (k : Nat) : Bool :=
  if op = 1 ∨ op = 2 then bareB t n x y k
  else if op = 3 ∨ op = 4 then txtB t && bareB ⟨#[]⟩ n x y k
  else if op = 5 ∨ op = 6 then (decide (-1000000 ≤ n) && decide (n ≤ 1000000)) && bareB t 0 x y k
  else if op = 7 then (mayB x y && (decide (0 ≤ n) && decide (n ≤ 8000000))) && bareB t 0 0 0 k
  else if op = 8 ∨ op = 9 then bareB t n x y 0
  else if op = 10 then decide (k = 1) && bareB t n x y 0
  else false
mutual
def all : Pr → Bool | node op t n x y k => partB op t n x y k.length && alls k
def alls : List Pr → Bool | [] => true | k :: l => all k && alls l
end
def fitsB (p : Pr) (s d : Int) : Bool := decide ((p.size : Int) ≤ s) && (decide ((p.depth : Int) ≤ d) && p.all)
def mayB (p : Pr) : Bool := p.fitsB 30 6
mutual
def same : Pr → Pr → Bool
  | node op t n x y k, node op' t' n' x' y' k' => decide (op = op') && (decide (t.toList = t'.toList) && (decide (n = n') && ((feq x x' && feq y y') && sames k k')))
def sames : List Pr → List Pr → Bool
  | [], [] => true
  | k :: l, k' :: l' => same k k' && sames l l'
  | _, _ => false
end
theorem size_pos (p : Pr) : 1 ≤ p.size := by cases p; simp [size]
theorem sizes_append (l m : List Pr) : sizes (l ++ m) = sizes l + sizes m := by
  induction l with
  | nil => simp [sizes]
  | cons k l ih => simp [sizes, ih]; omega
theorem depths_append (l m : List Pr) : depths (l ++ m) = max (depths l) (depths m) := by
  induction l with
  | nil => simp [depths]
  | cons k l ih => simp [depths, ih]
theorem alls_append (l m : List Pr) : alls (l ++ m) = (alls l && alls m) := by
  induction l with
  | nil => simp [alls]
  | cons k l ih => simp [alls, ih, Bool.and_assoc]
theorem len_le_sizes (l : List Pr) : l.length ≤ sizes l := by
  induction l with
  | nil => simp
  | cons k l ih => simp [sizes]; have := size_pos k; omega
theorem size_mem {l : List Pr} {k : Pr} (h : k ∈ l) : k.size ≤ sizes l := by
  induction l with
  | nil => simp at h
  | cons a l ih =>
    simp only [sizes]
    rcases List.mem_cons.1 h with rfl | h
    · omega
    · have := ih h; omega
theorem depth_le_size : ∀ p : Pr, p.depth ≤ p.size := by
  intro p
  induction p using ind with
  | h op t n x y k ih =>
    simp only [depth, size]
    have : depths k ≤ sizes k := by
      induction k with
      | nil => simp [depths]
      | cons a l ihl =>
        have h1 := ih a (by simp)
        have h2 := ihl fun b hb => ih b (by simp [hb])
        simp only [depths, sizes]; omega
    omega
theorem take_one {l : List Pr} {k : Nat} {p : Pr} (hp : l[k]? = some p) : l.take (k + 1) = l.take k ++ [p] := by
  obtain ⟨hk, e⟩ := List.getElem?_eq_some_iff.1 hp
  rw [List.take_succ_eq_append_getElem hk, e]
theorem sizes_take {l : List Pr} {k : Nat} {p : Pr} (hp : l[k]? = some p) : sizes (l.take (k + 1)) = sizes (l.take k) + p.size := by
  rw [take_one hp, sizes_append]; simp [sizes]
theorem depths_take {l : List Pr} {k : Nat} {p : Pr} (hp : l[k]? = some p) : depths (l.take (k + 1)) = max (depths (l.take k)) p.depth := by
  rw [take_one hp, depths_append]; simp [depths]
theorem alls_take {l : List Pr} {k : Nat} {p : Pr} (hp : l[k]? = some p) : alls (l.take (k + 1)) = (alls (l.take k) && p.all) := by
  rw [take_one hp, alls_append]; simp [alls]
theorem sizes_take_le (l : List Pr) (k : Nat) : sizes (l.take k) ≤ sizes l := by
  have h := sizes_append (l.take k) (l.drop k)
  rw [List.take_append_drop] at h; omega
theorem depths_take_le (l : List Pr) (k : Nat) : depths (l.take k) ≤ depths l := by
  have h := depths_append (l.take k) (l.drop k)
  rw [List.take_append_drop] at h; omega
theorem take_all (l : List Pr) {k : Nat} (h : l.length ≤ k) : l.take k = l := List.take_of_length_le h
theorem sames_len : ∀ {l m : List Pr}, sames l m = true → l.length = m.length
  | [], [], _ => rfl
  | [], _ :: _, h => by simp [sames] at h
  | _ :: _, [], h => by simp [sames] at h
  | a :: l, b :: m, h => by
    simp only [sames, Bool.and_eq_true] at h
    simp [sames_len h.2]
theorem sames_not_len {l m : List Pr} (h : l.length ≠ m.length) : sames l m = false := by
  cases e : sames l m with
  | false => rfl
  | true => exact absurd (sames_len e) h
theorem sames_at {l m : List Pr} {k : Nat} {p q : Pr} (hp : l[k]? = some p) (hq : m[k]? = some q) (h : same p q = false) : sames l m = false := by
  induction l generalizing m k with
  | nil => simp at hp
  | cons a l ih =>
    cases m with
    | nil => simp at hq
    | cons b m =>
      cases k with
      | zero =>
        simp at hp hq; subst hp hq; simp [sames, h]
      | succ k =>
        simp at hp hq
        simp [sames, ih hp hq]
theorem sames_take {l m : List Pr} {k : Nat} {p q : Pr} (hp : l[k]? = some p) (hq : m[k]? = some q) (h0 : sames (l.take k) (m.take k) = true) (h : same p q = true) : sames (l.take (k + 1)) (m.take (k + 1)) = true := by
  induction l generalizing m k with
  | nil => simp at hp
  | cons a l ih =>
    cases m with
    | nil => simp at hq
    | cons b m =>
      cases k with
      | zero =>
        simp at hp hq; subst hp hq; simp [sames, h]
      | succ k =>
        simp at hp hq
        simp only [List.take_succ_cons, sames, Bool.and_eq_true] at h0 ⊢
        exact ⟨h0.1, ih hp hq h0.2⟩
theorem feq_of_bare {t : ByteArray} {n : Int} {x y k : Nat} (h : bareB t n x y k = true) : feq x 0 = true ∧ feq y 0 = true := by
  simp only [bareB, Bool.and_eq_true] at h
  exact h.2.2.1
theorem feq_zero_self {x z : Nat} (h : feq x z = true) : feq x x = true := by
  have h1 : Fl.f64.order x z = some .eq := by
    unfold feq at h; exact eq_of_beq h
  have h2 : Fl.f64.order x x = some .eq := by
    unfold Ieee.Format.order at *
    revert h1
    generalize Fl.f64.read x = X
    generalize Fl.f64.read z = Z
    intro h1
    cases X <;> cases Z <;> simp [Ieee.Datum.order] at h1 ⊢
  unfold feq
  have h3 : FloatKind.f64.format.order x x = some .eq := h2
  rw [h3]; rfl
theorem all_same : ∀ p : Pr, p.all = true → same p p = true := by
  intro p
  induction p using ind with
  | h op t n x y k ih =>
    intro h
    simp only [all, Bool.and_eq_true] at h
    have hk : sames k k = true := by
      have h2 := h.2
      clear h
      induction k with
      | nil => simp [sames]
      | cons a l ihl =>
        simp only [alls, Bool.and_eq_true] at h2
        simp only [sames, Bool.and_eq_true]
        exact ⟨ih a (by simp) h2.1, ihl (fun b hb => ih b (by simp [hb])) h2.2⟩
    have hf : feq x x = true ∧ feq y y = true := by
      have h1 := h.1
      unfold partB at h1
      split at h1
      · exact ⟨feq_zero_self (feq_of_bare h1).1, feq_zero_self (feq_of_bare h1).2⟩
      split at h1
      · simp only [Bool.and_eq_true] at h1
        exact ⟨feq_zero_self (feq_of_bare h1.2).1, feq_zero_self (feq_of_bare h1.2).2⟩
      split at h1
      · simp only [Bool.and_eq_true] at h1
        exact ⟨feq_zero_self (feq_of_bare h1.2).1, feq_zero_self (feq_of_bare h1.2).2⟩
      split at h1
      · simp only [Bool.and_eq_true] at h1
        have h3 := h1.1.1
        unfold Proofs.Ytjepnaefkfkpcaa.mayB at h3
        simp only [Bool.and_eq_true] at h3
        exact ⟨feq_self h3.1, feq_self h3.2⟩
      split at h1
      · exact ⟨feq_zero_self (feq_of_bare h1).1, feq_zero_self (feq_of_bare h1).2⟩
      split at h1
      · simp only [Bool.and_eq_true] at h1
        exact ⟨feq_zero_self (feq_of_bare h1.2).1, feq_zero_self (feq_of_bare h1.2).2⟩
      · cases h1
    simp [same, hk, hf.1, hf.2]
end Pr
end Go.Proofs.Ytjepnaefkfkpcaa
/- Lists of items: what the laws' walks carry. No walk. -/
namespace Go.Proofs.Ytjepnaefkfkpcaa
set_option linter.unusedVariables false
set_option linter.unusedSimpArgs false
set_option maxRecDepth 100000
open Go.RowKit
theorem Row.val {sz : Nat} {f : Itm → List Value} {w : World} {l : List Itm} {v : Value} (h : Row sz f w l v) : ∃ oa cap, v = .slice oa l.length cap := by
  obtain ⟨oa, cap, _, _, e, _⟩ := h
  exact ⟨oa, cap, e⟩
theorem Row.alloc {sz : Nat} {f : Itm → List Value} {w : World} {l : List Itm} {v : Value} (h : Row sz f w l v) (o : Obj) : Row sz f (w.alloc o) l v := h.later ((Below.refl _ _).alloc (Nat.le_refl _) _)
theorem Row.drew {sz : Nat} {f : Itm → List Value} {w : World} {l : List Itm} {v : Value} (h : Row sz f w l v) : Row sz f w.drew l v := h.later (Below.refl _ _).drew
theorem Row.oks {sz : Nat} {f : Itm → List Value} {w : World} {l : List Itm} {v : Value} (h : Row sz f w l v) : ∀ i ∈ l, i.id.size ≤ maxLen ∧ i.kd.size ≤ maxLen := by
  obtain ⟨_, _, _, _, _, h⟩ := h
  exact h.ok
def mayLB (l : List Itm) : Bool := l.all mayT && risesB l
end Go.Proofs.Ytjepnaefkfkpcaa
