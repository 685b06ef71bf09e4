/- Joined: VecL, FarM, Pr, PlSt. -/
import Derived.Test.YtjkcooakddlppaaGreatJ04
import Derived.Laws.StructEq
import Derived.Laws.Tables
import Derived.Laws.Cover2
import Derived.Test.YtjkcooakddlppaaGreatJ03
import Derived.Test.YtjkcooakddlppaaGreatJ05
import Derived.OneCell
import Derived.Below
/- '==' of two counts, as a law to be named. No walk. -/
namespace Go.Proofs.YtjkcooakddlppaaGreat
set_option linter.unusedVariables false
set_option linter.unusedSimpArgs false
set_option maxRecDepth 100000
open Go.RowKit
set_option maxHeartbeats 2000000 in
theorem eqVecL (a0 a1 a2 a3 a4 a5 a6 a7 b0 b1 b2 b3 b4 b5 b6 b7 : Int) (w : World) : (Op.equalIn 10000 28 (.agg #[.int .i64 a0, .int .i64 a1, .int .i64 a2, .int .i64 a3, .int .i64 a4, .int .i64 a5, .int .i64 a6, .int .i64 a7]) (.agg #[.int .i64 b0, .int .i64 b1, .int .i64 b2, .int .i64 b3, .int .i64 b4, .int .i64 b5, .int .i64 b6, .int .i64 b7])).run Tryz.prog w = .ok (a0 == b0 && (a1 == b1 && (a2 == b2 && (a3 == b3 && (a4 == b4 && (a5 == b5 && (a6 == b6 && (a7 == b7)))))))) w := by
  have ju := Tryz.underlying3
  have ja := Tryz.isAgg3
  have jz := Tryz.sizeOf3
  rw [show (10000 : Nat) = 9999 + 1 from rfl, Op.equalIn]
  simp only [Sem.run_bind, run_underlying Tryz.underlying28, Result.andThen_ok]
  simp only [Std.Legacy.Range.forIn_eq_forIn_range', Std.Legacy.Range.size, Nat.sub_zero, Nat.add_sub_cancel, Nat.div_one, List.range'_succ, List.range'_zero, List.forIn_cons, List.forIn_nil]
  go_simp
  by_cases h0 : a0 = b0
  case neg => simp [h0]
  by_cases h1 : a1 = b1
  case neg => simp [h0, h1]
  by_cases h2 : a2 = b2
  case neg => simp [h0, h1, h2]
  by_cases h3 : a3 = b3
  case neg => simp [h0, h1, h2, h3]
  by_cases h4 : a4 = b4
  case neg => simp [h0, h1, h2, h3, h4]
  by_cases h5 : a5 = b5
  case neg => simp [h0, h1, h2, h3, h4, h5]
  by_cases h6 : a6 = b6
  case neg => simp [h0, h1, h2, h3, h4, h5, h6]
  by_cases h7 : a7 = b7
  case neg => simp [h0, h1, h2, h3, h4, h5, h6, h7]
  simp [h0, h1, h2, h3, h4, h5, h6, h7]
theorem eqVec7 (A B : Nat → Int) (w : World) : (Op.equalIn 10000 28 (vecV A) (vecV B)).run Tryz.prog w = .ok (eqV A B) w := by
  have e : eqV A B = (A 0 == B 0 && (A 1 == B 1 && (A 2 == B 2 && (A 3 == B 3 && (A 4 == B 4 && (A 5 == B 5 && (A 6 == B 6 && A 7 == B 7))))))) := by
    unfold eqV
    simp [List.range_succ, Bool.and_assoc]
  rw [e]
  exact eqVecL _ _ _ _ _ _ _ _ _ _ _ _ _ _ _ _ w
end Go.Proofs.YtjkcooakddlppaaGreat
/- How far two places are apart: plain mathematics. No walk. -/
namespace Go.Proofs.YtjkcooakddlppaaGreat
set_option linter.unusedVariables false
set_option linter.unusedSimpArgs false
set_option maxRecDepth 100000
open Go.RowKit
def farV (a b c d : Nat) : Int := if mayB a b && mayB c d then (Fl.iv a - Fl.iv c) * (Fl.iv a - Fl.iv c) + (Fl.iv b - Fl.iv d) * (Fl.iv b - Fl.iv d) else -1
theorem may_parts {a b : Nat} (h : mayB a b = true) : Fl.IsInt a (Fl.iv a) ∧ Fl.IsInt b (Fl.iv b) ∧ (Fl.iv a).natAbs ≤ 1000 ∧ (Fl.iv b).natAbs ≤ 1000 := by
  unfold mayB at h
  simp only [Bool.and_eq_true] at h
  have h1 := Fl.wb_int h.1
  have h2 := Fl.wb_int h.2
  exact ⟨h1.1, h2.1, h1.2, h2.2⟩
theorem sq_bd {p : Int} (h1 : -2000 ≤ p) (h2 : p ≤ 2000) : 0 ≤ p * p ∧ p * p ≤ 4000000 := by
  constructor
  · rcases Int.lt_or_le p 0 with h | h
    · have := Int.mul_nonneg_of_nonpos_of_nonpos (Int.le_of_lt h) (Int.le_of_lt h); exact this
    · exact Int.mul_nonneg h h
  · have := Int.mul_nonneg (show 0 ≤ 2000 - p by omega) (show 0 ≤ 2000 + p by omega)
    have e : (2000 - p) * (2000 + p) = 4000000 - p * p := by
      rw [Int.sub_mul, Int.mul_add, Int.mul_add, Int.mul_comm 2000 p]; omega
    omega
theorem farV_bd (a b c d : Nat) : -1 ≤ farV a b c d ∧ farV a b c d ≤ 8000000 := by
  unfold farV
  split
  · rename_i h
    simp only [Bool.and_eq_true] at h
    obtain ⟨_, _, b1, b2⟩ := may_parts h.1
    obtain ⟨_, _, b3, b4⟩ := may_parts h.2
    have h1 := sq_bd (p := Fl.iv a - Fl.iv c) (by omega) (by omega)
    have h2 := sq_bd (p := Fl.iv b - Fl.iv d) (by omega) (by omega)
    omega
  · omega
def nearB (a b c d : Nat) (n : Int) : Bool := decide (0 ≤ farV a b c d) && decide (farV a b c d ≤ n)
end Go.Proofs.YtjkcooakddlppaaGreat
/- Filters as trees: how large, how deep, whether they may be, whether they are the same. No walk. -/
namespace Go.Proofs.YtjkcooakddlppaaGreat
set_option linter.unusedVariables false
set_option linter.unusedSimpArgs false
set_option maxRecDepth 100000
inductive Pr where
  | node (op : Int) (text : ByteArray) (n : Int) (x y : Nat) (kids : List Pr)
namespace Pr
def op : Pr → Int | node o _ _ _ _ _ => o
def text : Pr → ByteArray | node _ t _ _ _ _ => t
def n : Pr → Int | node _ _ n _ _ _ => n
def x : Pr → Nat | node _ _ _ x _ _ => x
def y : Pr → Nat | node _ _ _ _ y _ => y
def kids : Pr → List Pr | node _ _ _ _ _ k => k
theorem op_node (a : Int) (t : ByteArray) (c : Int) (d e : Nat) (k : List Pr) : (node a t c d e k).op = a := rfl
theorem text_node (a : Int) (t : ByteArray) (c : Int) (d e : Nat) (k : List Pr) : (node a t c d e k).text = t := rfl
theorem n_node (a : Int) (t : ByteArray) (c : Int) (d e : Nat) (k : List Pr) : (node a t c d e k).n = c := rfl
theorem x_node (a : Int) (t : ByteArray) (c : Int) (d e : Nat) (k : List Pr) : (node a t c d e k).x = d := rfl
theorem y_node (a : Int) (t : ByteArray) (c : Int) (d e : Nat) (k : List Pr) : (node a t c d e k).y = e := rfl
theorem kids_node (a : Int) (t : ByteArray) (c : Int) (d e : Nat) (k : List Pr) : (node a t c d e k).kids = k := rfl
theorem ind {P : Pr → Prop} (h : ∀ op text n x y kids, (∀ k ∈ kids, P k) → P (node op text n x y kids)) : ∀ p, P p
  | node op text n x y kids => h op text n x y kids (go kids)
where
  go : ∀ l : List Pr, ∀ k ∈ l, P k
    | [], k, hk => absurd hk List.not_mem_nil
    | a :: l, k, hk => by
      rcases List.mem_cons.1 hk with e | hk
      · rw [e]; exact ind h a
      · exact go l k hk
mutual
def size : Pr → Nat | node _ _ _ _ _ k => 1 + sizes k
def sizes : List Pr → Nat | [] => 0 | k :: l => size k + sizes l
end
mutual
def depth : Pr → Nat | node _ _ _ _ _ k => 1 + depths k
def depths : List Pr → Nat | [] => 0 | k :: l => max (depth k) (depths l)
end
def bareB (t : ByteArray) (n : Int) (x y : Nat) (k : Nat) : Bool := decide (t.toList = []) && (decide (n = 0) && ((feq x 0 && feq y 0) && decide (k = 0)))
def partB (op : Int) (t : ByteArray) (n : Int) (x y : Nat) (k : Nat) : Bool :=
  if op = 1 ∨ op = 2 then bareB t n x y k
  else if op = 3 ∨ op = 4 then txtB t && bareB ⟨#[]⟩ n x y k
  else if op = 5 ∨ op = 6 then (decide (-1000000 ≤ n) && decide (n ≤ 1000000)) && bareB t 0 x y k
  else if op = 7 then (mayB x y && (decide (0 ≤ n) && decide (n ≤ 8000000))) && bareB t 0 0 0 k
  else if op = 8 ∨ op = 9 then bareB t n x y 0
  else if op = 10 then decide (k = 1) && bareB t n x y 0
  else false
mutual
def all : Pr → Bool | node op t n x y k => partB op t n x y k.length && alls k
def alls : List Pr → Bool | [] => true | k :: l => all k && alls l
end
def fitsB (p : Pr) (s d : Int) : Bool := decide ((p.size : Int) ≤ s) && (decide ((p.depth : Int) ≤ d) && p.all)
def mayB (p : Pr) : Bool := p.fitsB 30 6
mutual
def same : Pr → Pr → Bool
  | node op t n x y k, node op' t' n' x' y' k' => decide (op = op') && (decide (t.toList = t'.toList) && (decide (n = n') && ((feq x x' && feq y y') && sames k k')))
def sames : List Pr → List Pr → Bool
  | [], [] => true
  | k :: l, k' :: l' => same k k' && sames l l'
  | _, _ => false
end
theorem size_pos (p : Pr) : 1 ≤ p.size := by cases p; simp [size]
theorem sizes_append (l m : List Pr) : sizes (l ++ m) = sizes l + sizes m := by
  induction l with
  | nil => simp [sizes]
  | cons k l ih => simp [sizes, ih]; omega
theorem depths_append (l m : List Pr) : depths (l ++ m) = max (depths l) (depths m) := by
  induction l with
  | nil => simp [depths]
  | cons k l ih => simp [depths, ih]
theorem alls_append (l m : List Pr) : alls (l ++ m) = (alls l && alls m) := by
  induction l with
  | nil => simp [alls]
  | cons k l ih => simp [alls, ih, Bool.and_assoc]
theorem len_le_sizes (l : List Pr) : l.length ≤ sizes l := by
  induction l with
  | nil => simp
  | cons k l ih => simp [sizes]; have := size_pos k; omega
theorem size_mem {l : List Pr} {k : Pr} (h : k ∈ l) : k.size ≤ sizes l := by
  induction l with
  | nil => simp at h
  | cons a l ih =>
    simp only [sizes]
    rcases List.mem_cons.1 h with rfl | h
    · omega
    · have := ih h; omega
theorem depth_mem {l : List Pr} {k : Pr} (h : k ∈ l) : k.depth ≤ depths l := by
  induction l with
  | nil => simp at h
  | cons a l ih =>
    simp only [depths]
    rcases List.mem_cons.1 h with rfl | h
    · omega
    · have := ih h; omega
theorem all_mem {l : List Pr} {k : Pr} (h : k ∈ l) (ha : alls l = true) : k.all = true := by
  induction l with
  | nil => simp at h
  | cons a l ih =>
    simp only [alls, Bool.and_eq_true] at ha
    rcases List.mem_cons.1 h with rfl | h
    · exact ha.1
    · exact ih h ha.2
theorem depth_le_size : ∀ p : Pr, p.depth ≤ p.size := by
  intro p
  induction p using ind with
  | h op t n x y k ih =>
    simp only [depth, size]
    have : depths k ≤ sizes k := by
      induction k with
      | nil => simp [depths]
      | cons a l ihl =>
        have h1 := ih a (by simp)
        have h2 := ihl fun b hb => ih b (by simp [hb])
        simp only [depths, sizes]; omega
    omega
theorem take_one {l : List Pr} {k : Nat} {p : Pr} (hp : l[k]? = some p) : l.take (k + 1) = l.take k ++ [p] := by
  obtain ⟨hk, e⟩ := List.getElem?_eq_some_iff.1 hp
  rw [List.take_succ_eq_append_getElem hk, e]
theorem sizes_take {l : List Pr} {k : Nat} {p : Pr} (hp : l[k]? = some p) : sizes (l.take (k + 1)) = sizes (l.take k) + p.size := by
  rw [take_one hp, sizes_append]; simp [sizes]
theorem depths_take {l : List Pr} {k : Nat} {p : Pr} (hp : l[k]? = some p) : depths (l.take (k + 1)) = max (depths (l.take k)) p.depth := by
  rw [take_one hp, depths_append]; simp [depths]
theorem alls_take {l : List Pr} {k : Nat} {p : Pr} (hp : l[k]? = some p) : alls (l.take (k + 1)) = (alls (l.take k) && p.all) := by
  rw [take_one hp, alls_append]; simp [alls]
theorem sizes_take_le (l : List Pr) (k : Nat) : sizes (l.take k) ≤ sizes l := by
  have h := sizes_append (l.take k) (l.drop k)
  rw [List.take_append_drop] at h; omega
theorem depths_take_le (l : List Pr) (k : Nat) : depths (l.take k) ≤ depths l := by
  have h := depths_append (l.take k) (l.drop k)
  rw [List.take_append_drop] at h; omega
theorem take_all (l : List Pr) {k : Nat} (h : l.length ≤ k) : l.take k = l := List.take_of_length_le h
theorem sames_len : ∀ {l m : List Pr}, sames l m = true → l.length = m.length
  | [], [], _ => rfl
  | [], _ :: _, h => by simp [sames] at h
  | _ :: _, [], h => by simp [sames] at h
  | a :: l, b :: m, h => by
    simp only [sames, Bool.and_eq_true] at h
    simp [sames_len h.2]
theorem sames_not_len {l m : List Pr} (h : l.length ≠ m.length) : sames l m = false := by
  cases e : sames l m with
  | false => rfl
  | true => exact absurd (sames_len e) h
theorem sames_at {l m : List Pr} {k : Nat} {p q : Pr} (hp : l[k]? = some p) (hq : m[k]? = some q) (h : same p q = false) : sames l m = false := by
  induction l generalizing m k with
  | nil => simp at hp
  | cons a l ih =>
    cases m with
    | nil => simp at hq
    | cons b m =>
      cases k with
      | zero =>
        simp at hp hq; subst hp hq; simp [sames, h]
      | succ k =>
        simp at hp hq
        simp [sames, ih hp hq]
theorem sames_take {l m : List Pr} {k : Nat} {p q : Pr} (hp : l[k]? = some p) (hq : m[k]? = some q) (h0 : sames (l.take k) (m.take k) = true) (h : same p q = true) : sames (l.take (k + 1)) (m.take (k + 1)) = true := by
  induction l generalizing m k with
  | nil => simp at hp
  | cons a l ih =>
    cases m with
    | nil => simp at hq
    | cons b m =>
      cases k with
      | zero =>
        simp at hp hq; subst hp hq; simp [sames, h]
      | succ k =>
        simp at hp hq
        simp only [List.take_succ_cons, sames, Bool.and_eq_true] at h0 ⊢
        exact ⟨h0.1, ih hp hq h0.2⟩
theorem feq_of_bare {t : ByteArray} {n : Int} {x y k : Nat} (h : bareB t n x y k = true) : feq x 0 = true ∧ feq y 0 = true := by
  simp only [bareB, Bool.and_eq_true] at h
  exact h.2.2.1
theorem feq_zero_self {x z : Nat} (h : feq x z = true) : feq x x = true := by
  have h1 : Fl.f64.order x z = some .eq := by
    unfold feq at h; exact eq_of_beq h
  have h2 : Fl.f64.order x x = some .eq := by
    unfold Ieee.Format.order at *
    revert h1
    generalize Fl.f64.read x = X
    generalize Fl.f64.read z = Z
    intro h1
    cases X <;> cases Z <;> simp [Ieee.Datum.order] at h1 ⊢
  unfold feq
  have h3 : FloatKind.f64.format.order x x = some .eq := h2
  rw [h3]; rfl
theorem all_same : ∀ p : Pr, p.all = true → same p p = true := by
  intro p
  induction p using ind with
  | h op t n x y k ih =>
    intro h
    simp only [all, Bool.and_eq_true] at h
    have hk : sames k k = true := by
      have h2 := h.2
      clear h
      induction k with
      | nil => simp [sames]
      | cons a l ihl =>
        simp only [alls, Bool.and_eq_true] at h2
        simp only [sames, Bool.and_eq_true]
        exact ⟨ih a (by simp) h2.1, ihl (fun b hb => ih b (by simp [hb])) h2.2⟩
    have hf : feq x x = true ∧ feq y y = true := by
      have h1 := h.1
      unfold partB at h1
      split at h1
      · exact ⟨feq_zero_self (feq_of_bare h1).1, feq_zero_self (feq_of_bare h1).2⟩
      split at h1
      · simp only [Bool.and_eq_true] at h1
        exact ⟨feq_zero_self (feq_of_bare h1.2).1, feq_zero_self (feq_of_bare h1.2).2⟩
      split at h1
      · simp only [Bool.and_eq_true] at h1
        exact ⟨feq_zero_self (feq_of_bare h1.2).1, feq_zero_self (feq_of_bare h1.2).2⟩
      split at h1
      · simp only [Bool.and_eq_true] at h1
        have h3 := h1.1.1
        unfold Proofs.YtjkcooakddlppaaGreat.mayB at h3
        simp only [Bool.and_eq_true] at h3
        exact ⟨feq_self h3.1, feq_self h3.2⟩
      split at h1
      · exact ⟨feq_zero_self (feq_of_bare h1).1, feq_zero_self (feq_of_bare h1).2⟩
      split at h1
      · simp only [Bool.and_eq_true] at h1
        exact ⟨feq_zero_self (feq_of_bare h1.2).1, feq_zero_self (feq_of_bare h1.2).2⟩
      · cases h1
    simp [same, hk, hf.1, hf.2]
end Pr
end Go.Proofs.YtjkcooakddlppaaGreat
/- Pieces that a call owns: a row of pieces, and the rows of their Ids. No walk. -/
namespace Go.Proofs.YtjkcooakddlppaaGreat
set_option linter.unusedVariables false
set_option linter.unusedSimpArgs false
set_option maxRecDepth 100000
open Go.RowKit
def frCs (U : Nat → Value) : Nat → List Fr → List Value
  | _, [] => []
  | s, f :: l => fc f (U s) ++ frCs U (s + 1) l
theorem frCs_len (U : Nat → Value) (s : Nat) (l : List Fr) : (frCs U s l).length = l.length * 9 := by
  induction l generalizing s with
  | nil => rfl
  | cons p l ih => simp only [frCs, List.length_append, ih, List.length_cons, List.length_nil]; omega
theorem frCs_get (U : Nat → Value) (s : Nat) (l : List Fr) (i : Nat) (f : Fr) (hf : l[i]? = some f) (j : Nat) (hj : j < 9) : (frCs U s l)[i * 9 + j]? = (fc f (U (s + i)))[j]? := by
  induction l generalizing s i with
  | nil => simp at hf
  | cons q l ih =>
    cases i with
    | zero =>
      simp at hf; subst hf
      simp only [frCs, Nat.zero_mul, Nat.zero_add, Nat.add_zero]
      rw [List.getElem?_append_left (by simpa using hj)]
    | succ i =>
      simp at hf
      have e : (fc q (U s)).length = 9 := rfl
      rw [frCs, List.getElem?_append_right (by rw [e]; omega), e, show (i + 1) * 9 + j - 9 = i * 9 + j by omega, ih (s + 1) i hf, show s + 1 + i = s + (i + 1) by omega]
theorem frCs_congr {U V : Nat → Value} {s : Nat} {l : List Fr} (h : ∀ i, i < l.length → U (s + i) = V (s + i)) : frCs U s l = frCs V s l := by
  induction l generalizing s with
  | nil => rfl
  | cons p l ih =>
    rw [frCs, frCs, show U s = V s from h 0 (by simp), ih (fun i hi => by have := h (i + 1) (by simp; omega); rwa [show s + (i + 1) = s + 1 + i by omega] at this)]
theorem frCs_app (U : Nat → Value) (s : Nat) (l m : List Fr) : frCs U s (l ++ m) = frCs U s l ++ frCs U (s + l.length) m := by
  induction l generalizing s with
  | nil => simp [frCs]
  | cons p l ih => simp only [List.cons_append, frCs, ih, List.append_assoc, List.length_cons]; rw [show s + 1 + l.length = s + (l.length + 1) by omega]
def updU (U : Nat → Value) (i : Nat) (v : Value) : Nat → Value := fun j => if j = i then v else U j
theorem updU_same (U : Nat → Value) (i : Nat) (v : Value) : updU U i v i = v := by simp [updU]
theorem updU_far (U : Nat → Value) {i j : Nat} (v : Value) (h : j ≠ i) : updU U i v j = U j := by simp [updU, h]
theorem frCs_set (U : Nat → Value) (l : List Fr) : ∀ (s a : Nat) (f f' : Fr) (v : Value), l[a]? = some f → f'.v = f.v → frCs (updU U (s + a) v) s (l.set a f') = (frCs U s l).set (a * 9) v := by
  induction l with
  | nil => intro s a f f' v h; simp at h
  | cons q l ih =>
    intro s a f f' v h hv
    cases a with
    | zero =>
      simp at h; subst h
      rw [List.set_cons_zero, frCs, frCs, Nat.zero_mul, Nat.add_zero, updU_same]
      rw [frCs_congr (U := updU U s v) (V := U) (s := s + 1) (l := l) (fun i _ => updU_far _ _ (by omega))]
      simp [fc, hv]
    | succ a =>
      simp at h
      rw [List.set_cons_succ, frCs, frCs, updU_far _ _ (by omega)]
      have e : (fc q (U s)).length = 9 := rfl
      rw [List.set_append_right _ _ (by rw [e]; omega), e, show (a + 1) * 9 - 9 = a * 9 by omega, ← ih (s + 1) a f f' v h hv, show s + 1 + a = s + (a + 1) by omega]
/-! ### Rows apart by what they hold -/
theorem row_apart {w : World} {base base' n n' size size' : Nat} {e e' : TypeId} {v v' : Value} {xs xs' : List Value} (h : w.ownsRow base e size v n xs) (h' : w.ownsRow base' e' size' v' n' xs') (hne : e ≠ e') : v.ownBlock = none ∨ v.ownBlock ≠ v'.ownBlock := by
  rcases h.2 with ⟨rfl, _⟩ | ⟨g, cap, cur, rfl, _, hg, _⟩
  · exact .inl rfl
  · right
    rcases h'.2 with ⟨rfl, _⟩ | ⟨g', cap', cur', rfl, _, hg', _⟩
    · simp [Value.ownBlock]
    · simp only [Value.ownBlock, ne_eq, Option.some.injEq]
      intro e; subst e
      rw [hg] at hg'
      simp only [Option.some.injEq, Obj.cells.injEq] at hg'
      exact hne hg'.2.1
theorem own_apart {w : World} {base n size b : Nat} {e t : TypeId} {v : Value} {xs : List Value} {c : Array Value} (h : w.ownsRow base e size v n xs) (h' : Own w b c t) (hne : e ≠ t) : some b ≠ v.ownBlock := by
  rcases h.2 with ⟨rfl, _⟩ | ⟨g, cap, cur, rfl, _, hg, _⟩
  · simp [Value.ownBlock]
  · simp only [Value.ownBlock, ne_eq, Option.some.injEq]
    intro e; subst e
    have := h'.blk
    rw [hg] at this
    simp only [Option.some.injEq, Obj.cells.injEq] at this
    exact hne this.2.1
theorem row_set {w : World} {base n size g cap o : Nat} {e : TypeId} {xs : List Value} (h : w.ownsRow base e size (.slice (some ⟨g, 0, none⟩) n cap) n xs) (v : Value) (ho : o < n * size) : (w.setCell ⟨g, o, none⟩ v).ownsRow base e size (.slice (some ⟨g, 0, none⟩) n cap) n (xs.set o v) := by
  obtain ⟨h1, h2⟩ := h
  refine ⟨by rw [List.length_set]; exact h1, ?_⟩
  rcases h2 with ⟨h2, _⟩ | ⟨g', cap', cur, hv, hg, hh, h3, h4, h5, h6⟩
  · cases h2
  · cases hv
    refine .inr ⟨g, cap, cur.setIfInBounds o v, rfl, hg, ?_, h3, h4, by simpa using h5, ?_⟩
    · simp only [World.setCell, Array.getElem?_modify, if_true]
      rw [hh]; simp
    · rw [← h6, Array.toList_setIfInBounds, List.take_set]
theorem row_free {w : World} {base n n' size g cap : Nat} {e : TypeId} {xs : List Value} (h : w.ownsRow base e size (.slice (some ⟨g, 0, none⟩) n' cap) n xs) (o : Nat) : w.frozen? ⟨g, o, none⟩ = false := by
  rcases h.2 with ⟨h2, _⟩ | ⟨g', cap', cur, hv, hg, hh, _⟩
  · cases h2
  · cases hv
    simp [World.frozen?, hh]
structure PK (w : World) (base : Nat) (o : List Fr) (U : Nat → Value) (Lv : Value) : Prop where
  row : w.ownsRow base 115 9 Lv o.length (frCs U 0 o)
  ids : ∀ i f, o[i]? = some f → OwnT w base f.ids (U i)
  apart : ∀ i j, i < o.length → j < o.length → i ≠ j → (U i).ownBlock = none ∨ (U i).ownBlock ≠ (U j).ownBlock
theorem PK.nil (w : World) (base : Nat) (U : Nat → Value) : PK w base [] U (.slice none 0 0) :=
  ⟨World.ownsRow_nil _ _ _ _, fun i f h => by simp at h, fun i j h => absurd h (by simp)⟩
theorem PK.later {w w' : World} {base : Nat} {o : List Fr} {U : Nat → Value} {Lv : Value} (h : PK w base o U Lv) (hb : Below w.heap.size w w') : PK w' base o U Lv :=
  ⟨ownsRow_below h.row hb, fun i f hf => (h.ids i f hf).later hb, h.apart⟩
theorem PK.setLow {w : World} {base : Nat} {o : List Fr} {U : Nat → Value} {Lv : Value} (h : PK w base o U Lv) {a : Addr} (ha : a.block < base) (u : Value) : PK (w.setCell a u) base o U Lv :=
  ⟨ownsRow_setCell_below h.row ha u, fun i f hf => ownsRow_setCell_below (h.ids i f hf) ha u, h.apart⟩
theorem ft_ne : 9 ≠ 115 := by decide
theorem PK.at {w : World} {base : Nat} {o : List Fr} {U : Nat → Value} {g n cap : Nat} (h : PK w base o U (.slice (some ⟨g, 0, none⟩) n cap)) {k : Nat} {f : Fr} (hf : o[k]? = some f) : ∀ j u, (fc f (U k))[j]? = some u → w.cell? ⟨g, k * 9 + j, none⟩ = some u := by
  intro j u hu
  have hj : j < 9 := (List.getElem?_eq_some_iff.1 hu).1
  have hk := posA hf
  have hn : n = o.length := by
    obtain ⟨oa, cap', g', e, _⟩ := row_slice h.row
    cases e; rfl
  subst hn
  rw [h.row.cellAt (k * 9 + j) (by omega), frCs_get _ _ _ _ _ hf _ hj, Nat.zero_add]
  exact hu
theorem PK.fr {w : World} {base : Nat} {o : List Fr} {U : Nat → Value} {Lv : Value} (h : PK w base o U Lv) (hok : ∀ f ∈ o, ∀ s ∈ f.ids, s.size ≤ maxLen) : FrW w o Lv := by
  obtain ⟨oa, cap, g, e, h1, h2, hg⟩ := row_slice h.row
  subst e
  refine ⟨U, oa, cap, g, 0, rfl, h1, h2, fun h0 => ⟨(hg h0).1, (hg h0).2.2⟩, fun k f hf j u hu => ?_, fun k f hf => (h.ids k f hf).tx (hok f (List.mem_of_getElem? hf))⟩
  obtain ⟨rfl, _⟩ := hg (by have := posA hf; omega)
  rw [Nat.zero_add]
  exact h.at hf j u hu
def FrFresh (w : World) (B : Nat) (l : List Fr) (v : Value) : Prop := ∀ w' : World, (∀ b, B ≤ b → b < w.heap.size → w'.heap[b]? = w.heap[b]?) → w.heap.size ≤ w'.heap.size → FrW w' l v
theorem FrFresh.fr {w : World} {B : Nat} {l : List Fr} {v : Value} (h : FrFresh w B l v) : FrW w l v := h w (fun _ _ _ => rfl) (Nat.le_refl _)
theorem FrFresh.mono {w : World} {B B' : Nat} {l : List Fr} {v : Value} (h : FrFresh w B l v) (hB : B' ≤ B) : FrFresh w B' l v := fun w' h1 h2 => h w' (fun b h3 h4 => h1 b (by omega) h4) h2
theorem FrFresh.setLow {w : World} {B : Nat} {l : List Fr} {v : Value} (h : FrFresh w B l v) {a : Addr} (ha : a.block < B) (u : Value) : FrFresh (w.setCell a u) B l v := fun w' h1 h2 =>
  have hs : (w.setCell a u).heap.size = w.heap.size := by simp [World.setCell]
  h w' (fun b h3 h4 => (h1 b h3 (by omega)).trans (Below.heap_setCell _ _ _ _ (by omega))) (by omega)
theorem PK.kept {w w' : World} {base : Nat} {o : List Fr} {U : Nat → Value} {Lv : Value} (h : PK w base o U Lv) (hb : ∀ b, base ≤ b → b < w.heap.size → w'.heap[b]? = w.heap[b]?) : PK w' base o U Lv := by
  have hk : ∀ {e : TypeId} {size n : Nat} {v : Value} {xs : List Value}, w.ownsRow base e size v n xs → w'.ownsRow base e size v n xs := by
    intro e size n v xs hr
    obtain ⟨h1, h2⟩ := hr
    refine ⟨h1, ?_⟩
    rcases h2 with h2 | ⟨g, cap, cur, hv, hg, hh, r⟩
    · exact .inl h2
    · have hlt : g < w.heap.size := (World.ownsRow.lt (⟨h1, .inr ⟨g, cap, cur, hv, hg, hh, r⟩⟩ : w.ownsRow base e size v n xs) g (by rw [hv]; rfl)).2
      exact .inr ⟨g, cap, cur, hv, hg, by rw [hb g hg hlt]; exact hh, r⟩
  exact ⟨hk h.row, fun i f hf => hk (h.ids i f hf), h.apart⟩
theorem PK.fresh {w : World} {base B : Nat} {o : List Fr} {U : Nat → Value} {Lv : Value} (h : PK w base o U Lv) (hB : B ≤ base) (hok : ∀ f ∈ o, ∀ s ∈ f.ids, s.size ≤ maxLen) : FrFresh w B o Lv :=
  fun w' h1 _ => (h.kept fun b h3 h4 => h1 b (by omega) h4).fr hok
theorem PK.pushF {w w' : World} {base : Nat} {o : List Fr} {U : Nat → Value} {Lv : Value} (h : PK w base o U Lv) (v : Nat → Int) {g n cap : Nat} (hn : n = o.length + 1)
    (hown : w'.ownsRow base 115 9 (.slice (some ⟨g, 0, none⟩) n cap) n (frCs U 0 o ++ fc ⟨[], v⟩ (.slice none 0 0))) (hgrow : w.grownBy w' Lv.ownBlock) :
    PK w' base (o ++ [⟨[], v⟩]) (updU U o.length (.slice none 0 0)) (.slice (some ⟨g, 0, none⟩) n cap) := by
  subst hn
  refine ⟨?_, fun i f hf => ?_, fun i j hi hj hij => ?_⟩
  · rw [List.length_append, frCs_app, Nat.zero_add, frCs, frCs, List.append_nil, updU_same]
    rw [frCs_congr (U := updU U o.length (.slice none 0 0)) (V := U) (s := 0) (l := o) (fun i hi => updU_far _ _ (by omega))]
    exact hown
  · by_cases e : i = o.length
    · subst e
      rw [List.getElem?_append_right (Nat.le_refl _), Nat.sub_self] at hf
      simp at hf; subst hf
      rw [updU_same]; exact OwnT.nil _ _
    · have hi : i < o.length := by have := posA hf; simp at this; omega
      rw [List.getElem?_append_left hi] at hf
      rw [updU_far _ _ e]
      exact World.ownsRow.kept (h.ids i f hf) hgrow (row_apart (h.ids i f hf) h.row ft_ne)
  · simp only [List.length_append, List.length_cons, List.length_nil] at hi hj
    by_cases e : i = o.length
    · subst e; rw [updU_same]; exact .inl rfl
    · rw [updU_far _ _ e]
      by_cases e' : j = o.length
      · subst e'; rw [updU_same]
        cases hq : (U i).ownBlock with
        | none => exact .inl rfl
        | some b => exact .inr (by simp [Value.ownBlock])
      · rw [updU_far _ _ e']; exact h.apart i j (by omega) (by omega) hij
theorem PK.pushT {w w' : World} {base : Nat} {o : List Fr} {U : Nat → Value} {gl nl cl : Nat} (h : PK w base o U (.slice (some ⟨gl, 0, none⟩) nl cl)) {a : Nat} {f : Fr} (hf : o[a]? = some f) (s : ByteArray) {g n cap : Nat} (hn : n = f.ids.length + 1)
    (hown : w'.ownsRow base 9 1 (.slice (some ⟨g, 0, none⟩) n cap) n (txC f.ids ++ [.string s])) (hgrow : w.grownBy w' (U a).ownBlock) (hat : (U a).ownBlock = some g ∨ g = w.heap.size) :
    PK (w'.setCell ⟨gl, a * 9, none⟩ (.slice (some ⟨g, 0, none⟩) n cap)) base (o.set a ⟨f.ids ++ [s], f.v⟩) (updU U a (.slice (some ⟨g, 0, none⟩) n cap)) (.slice (some ⟨gl, 0, none⟩) nl cl) := by
  have ha := posA hf
  have hrow' : w'.ownsRow base 115 9 (.slice (some ⟨gl, 0, none⟩) nl cl) o.length (frCs U 0 o) := World.ownsRow.kept h.row hgrow (row_apart h.row (h.ids a f hf) (fun e => ft_ne e.symm))
  have hnl : nl = o.length := by
    obtain ⟨oa, cap', g', e, _⟩ := row_slice h.row
    cases e; rfl
  subst hnl
  have hgl : ∀ {v : Value} {n : Nat} {xs : List Value}, w'.ownsRow base 9 1 v n xs → v.ownBlock ≠ some gl := by
    intro v n xs hv e
    rcases row_apart hv hrow' ft_ne with h1 | h1
    · rw [h1] at e; cases e
    · exact h1 (by rw [e]; rfl)
  have hne : ∀ j, j < o.length → j ≠ a → (U j).ownBlock ≠ some g := by
    intro j hj hja e
    rcases hat with h1 | h1
    · rcases h.apart j a hj ha hja with h2 | h2
      · rw [h2] at e; cases e
      · exact h2 (by rw [e, h1])
    · obtain ⟨fj, hfj⟩ : ∃ fj, o[j]? = some fj := ⟨_, List.getElem?_eq_getElem hj⟩
      have := (World.ownsRow.lt (h.ids j fj hfj) g e).2
      omega
  refine ⟨?_, fun i f' hf' => ?_, fun i j hi hj hij => ?_⟩
  · rw [List.length_set]
    have e := frCs_set U o 0 a f ⟨f.ids ++ [s], f.v⟩ (.slice (some ⟨g, 0, none⟩) n cap) hf rfl
    rw [Nat.zero_add] at e
    rw [e]
    exact row_set hrow' _ (by omega)
  · by_cases e : i = a
    · subst e
      rw [List.getElem?_set_self (by exact ha)] at hf'
      simp at hf'; subst hf'
      rw [updU_same]
      refine ownsRow_setCell_other (OwnT.push hown hn) ?_ _
      exact hgl hown
    · rw [List.getElem?_set_ne (fun e' => e e'.symm)] at hf'
      rw [updU_far _ _ e]
      have hi := posA hf'
      have hk : OwnT w' base f'.ids (U i) := World.ownsRow.kept (h.ids i f' hf') hgrow (h.apart i a hi ha e)
      exact ownsRow_setCell_other hk (hgl hk) _
  · rw [List.length_set] at hi hj
    by_cases e : i = a
    · subst e
      rw [updU_same, updU_far _ _ (fun e => hij e.symm)]
      exact .inr fun e => hne j hj (fun e' => hij e'.symm) (by rw [← e]; rfl)
    · rw [updU_far _ _ e]
      by_cases e' : j = a
      · subst e'
        rw [updU_same]
        exact .inr fun e2 => hne i hi e (by rw [e2]; rfl)
      · rw [updU_far _ _ e']; exact h.apart i j hi hj hij
end Go.Proofs.YtjkcooakddlppaaGreat
