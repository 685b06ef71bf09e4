/- Filters as trees: how large, how deep, whether they may be, whether they are the same. No walk. -/
import Derived.Test.YtechmejmlelmmaaItemA
namespace Go.Proofs.Ytechmejmlelmmaa
set_option linter.unusedVariables false
set_option linter.unusedSimpArgs false
set_option maxRecDepth 100000

/-- A filter: its Op, Text, N, the two parts of its place, its Kids. -/
inductive Pr where
  | node (op : Int) (text : ByteArray) (n : Int) (x y : Nat) (kids : List Pr)
namespace Pr
def op : Pr → Int | node o _ _ _ _ _ => o
def text : Pr → ByteArray | node _ t _ _ _ _ => t
def n : Pr → Int | node _ _ n _ _ _ => n
def x : Pr → Nat | node _ _ _ x _ _ => x
def y : Pr → Nat | node _ _ _ _ y _ => y
def kids : Pr → List Pr | node _ _ _ _ _ k => k

theorem op_node (a : Int) (t : ByteArray) (c : Int) (d e : Nat) (k : List Pr) : (node a t c d e k).op = a := rfl
theorem text_node (a : Int) (t : ByteArray) (c : Int) (d e : Nat) (k : List Pr) : (node a t c d e k).text = t := rfl
theorem n_node (a : Int) (t : ByteArray) (c : Int) (d e : Nat) (k : List Pr) : (node a t c d e k).n = c := rfl
theorem x_node (a : Int) (t : ByteArray) (c : Int) (d e : Nat) (k : List Pr) : (node a t c d e k).x = d := rfl
theorem y_node (a : Int) (t : ByteArray) (c : Int) (d e : Nat) (k : List Pr) : (node a t c d e k).y = e := rfl
theorem kids_node (a : Int) (t : ByteArray) (c : Int) (d e : Nat) (k : List Pr) : (node a t c d e k).kids = k := rfl

theorem ind {P : Pr → Prop} (h : ∀ op text n x y kids, (∀ k ∈ kids, P k) → P (node op text n x y kids)) : ∀ p, P p
  | node op text n x y kids => h op text n x y kids (go kids)
where
  go : ∀ l : List Pr, ∀ k ∈ l, P k
    | [], k, hk => absurd hk List.not_mem_nil
    | a :: l, k, hk => by
      rcases List.mem_cons.1 hk with e | hk
      · rw [e]; exact ind h a
      · exact go l k hk

mutual
def size : Pr → Nat | node _ _ _ _ _ k => 1 + sizes k
def sizes : List Pr → Nat | [] => 0 | k :: l => size k + sizes l
end
mutual
def depth : Pr → Nat | node _ _ _ _ _ k => 1 + depths k
def depths : List Pr → Nat | [] => 0 | k :: l => max (depth k) (depths l)
end

/-- Nothing beside its Op (but what is named). -/
def bareB (t : ByteArray) (n : Int) (x y : Nat) (k : Nat) : Bool := decide (t.toList = []) && (decide (n = 0) && ((feq x 0 && feq y 0) && decide (k = 0)))
/-- By its Op, whatever its Kids are. -/
def partB (op : Int) (t : ByteArray) (n : Int) (x y : Nat) (k : Nat) : Bool :=
  if op = 1 ∨ op = 2 then bareB t n x y k
  else if op = 3 ∨ op = 4 then txtB t && bareB ⟨#[]⟩ n x y k
  else if op = 5 ∨ op = 6 then (decide (-1000000 ≤ n) && decide (n ≤ 1000000)) && bareB t 0 x y k
  else if op = 7 then (mayB x y && (decide (0 ≤ n) && decide (n ≤ 8000000))) && bareB t 0 0 0 k
  else if op = 8 ∨ op = 9 then bareB t n x y 0
  else if op = 10 then decide (k = 1) && bareB t n x y 0
  else false
mutual
def all : Pr → Bool | node op t n x y k => partB op t n x y k.length && alls k
def alls : List Pr → Bool | [] => true | k :: l => all k && alls l
end
def fitsB (p : Pr) (s d : Int) : Bool := decide ((p.size : Int) ≤ s) && (decide ((p.depth : Int) ≤ d) && p.all)
def mayB (p : Pr) : Bool := p.fitsB 30 6

mutual
def same : Pr → Pr → Bool
  | node op t n x y k, node op' t' n' x' y' k' => decide (op = op') && (decide (t.toList = t'.toList) && (decide (n = n') && ((feq x x' && feq y y') && sames k k')))
def sames : List Pr → List Pr → Bool
  | [], [] => true
  | k :: l, k' :: l' => same k k' && sames l l'
  | _, _ => false
end

theorem size_pos (p : Pr) : 1 ≤ p.size := by cases p; simp [size]
theorem depth_pos (p : Pr) : 1 ≤ p.depth := by cases p; simp [depth]
theorem sizes_append (l m : List Pr) : sizes (l ++ m) = sizes l + sizes m := by
  induction l with
  | nil => simp [sizes]
  | cons k l ih => simp [sizes, ih]; omega
theorem depths_append (l m : List Pr) : depths (l ++ m) = max (depths l) (depths m) := by
  induction l with
  | nil => simp [depths]
  | cons k l ih => simp [depths, ih]
theorem alls_append (l m : List Pr) : alls (l ++ m) = (alls l && alls m) := by
  induction l with
  | nil => simp [alls]
  | cons k l ih => simp [alls, ih, Bool.and_assoc]
theorem len_le_sizes (l : List Pr) : l.length ≤ sizes l := by
  induction l with
  | nil => simp
  | cons k l ih => simp [sizes]; have := size_pos k; omega
theorem size_mem {l : List Pr} {k : Pr} (h : k ∈ l) : k.size ≤ sizes l := by
  induction l with
  | nil => simp at h
  | cons a l ih =>
    simp only [sizes]
    rcases List.mem_cons.1 h with rfl | h
    · omega
    · have := ih h; omega
theorem depth_mem {l : List Pr} {k : Pr} (h : k ∈ l) : k.depth ≤ depths l := by
  induction l with
  | nil => simp at h
  | cons a l ih =>
    simp only [depths]
    rcases List.mem_cons.1 h with rfl | h
    · omega
    · have := ih h; omega
theorem all_mem {l : List Pr} {k : Pr} (h : k ∈ l) (ha : alls l = true) : k.all = true := by
  induction l with
  | nil => simp at h
  | cons a l ih =>
    simp only [alls, Bool.and_eq_true] at ha
    rcases List.mem_cons.1 h with rfl | h
    · exact ha.1
    · exact ih h ha.2
theorem depth_le_size : ∀ p : Pr, p.depth ≤ p.size := by
  intro p
  induction p using ind with
  | h op t n x y k ih =>
    simp only [depth, size]
    have : depths k ≤ sizes k := by
      induction k with
      | nil => simp [depths]
      | cons a l ihl =>
        have h1 := ih a (by simp)
        have h2 := ihl fun b hb => ih b (by simp [hb])
        simp only [depths, sizes]; omega
    omega

theorem take_one {l : List Pr} {k : Nat} {p : Pr} (hp : l[k]? = some p) : l.take (k + 1) = l.take k ++ [p] := by
  obtain ⟨hk, e⟩ := List.getElem?_eq_some_iff.1 hp
  rw [List.take_succ_eq_append_getElem hk, e]
theorem sizes_take {l : List Pr} {k : Nat} {p : Pr} (hp : l[k]? = some p) : sizes (l.take (k + 1)) = sizes (l.take k) + p.size := by
  rw [take_one hp, sizes_append]; simp [sizes]
theorem depths_take {l : List Pr} {k : Nat} {p : Pr} (hp : l[k]? = some p) : depths (l.take (k + 1)) = max (depths (l.take k)) p.depth := by
  rw [take_one hp, depths_append]; simp [depths]
theorem alls_take {l : List Pr} {k : Nat} {p : Pr} (hp : l[k]? = some p) : alls (l.take (k + 1)) = (alls (l.take k) && p.all) := by
  rw [take_one hp, alls_append]; simp [alls]
theorem sizes_take_le (l : List Pr) (k : Nat) : sizes (l.take k) ≤ sizes l := by
  have h := sizes_append (l.take k) (l.drop k)
  rw [List.take_append_drop] at h; omega
theorem depths_take_le (l : List Pr) (k : Nat) : depths (l.take k) ≤ depths l := by
  have h := depths_append (l.take k) (l.drop k)
  rw [List.take_append_drop] at h; omega
theorem take_all (l : List Pr) {k : Nat} (h : l.length ≤ k) : l.take k = l := List.take_of_length_le h

theorem sames_len : ∀ {l m : List Pr}, sames l m = true → l.length = m.length
  | [], [], _ => rfl
  | [], _ :: _, h => by simp [sames] at h
  | _ :: _, [], h => by simp [sames] at h
  | a :: l, b :: m, h => by
    simp only [sames, Bool.and_eq_true] at h
    simp [sames_len h.2]
theorem sames_not_len {l m : List Pr} (h : l.length ≠ m.length) : sames l m = false := by
  cases e : sames l m with
  | false => rfl
  | true => exact absurd (sames_len e) h
theorem sames_at {l m : List Pr} {k : Nat} {p q : Pr} (hp : l[k]? = some p) (hq : m[k]? = some q) (h : same p q = false) : sames l m = false := by
  induction l generalizing m k with
  | nil => simp at hp
  | cons a l ih =>
    cases m with
    | nil => simp at hq
    | cons b m =>
      cases k with
      | zero =>
        simp at hp hq; subst hp hq; simp [sames, h]
      | succ k =>
        simp at hp hq
        simp [sames, ih hp hq]
theorem sames_take {l m : List Pr} {k : Nat} {p q : Pr} (hp : l[k]? = some p) (hq : m[k]? = some q) (h0 : sames (l.take k) (m.take k) = true) (h : same p q = true) : sames (l.take (k + 1)) (m.take (k + 1)) = true := by
  induction l generalizing m k with
  | nil => simp at hp
  | cons a l ih =>
    cases m with
    | nil => simp at hq
    | cons b m =>
      cases k with
      | zero =>
        simp at hp hq; subst hp hq; simp [sames, h]
      | succ k =>
        simp at hp hq
        simp only [List.take_succ_cons, sames, Bool.and_eq_true] at h0 ⊢
        exact ⟨h0.1, ih hp hq h0.2⟩
theorem same_size : ∀ p q : Pr, same p q = true → p.size = q.size := by
  intro p
  induction p using ind with
  | h op t n x y k ih =>
    intro q h
    obtain ⟨op', t', n', x', y', k'⟩ := q
    simp only [same, Bool.and_eq_true] at h
    have h5 := h.2.2.2.2
    clear h
    simp only [size]
    have : sizes k = sizes k' := by
      induction k generalizing k' with
      | nil => cases k' with
        | nil => rfl
        | cons b m => simp [sames] at h5
      | cons a l ihl => cases k' with
        | nil => simp [sames] at h5
        | cons b m =>
          simp only [sames, Bool.and_eq_true] at h5
          simp only [sizes]
          rw [ih a (by simp) b h5.1, ihl (fun c hc => ih c (by simp [hc])) m h5.2]
    omega

theorem feq_of_bare {t : ByteArray} {n : Int} {x y k : Nat} (h : bareB t n x y k = true) : feq x 0 = true ∧ feq y 0 = true := by
  simp only [bareB, Bool.and_eq_true] at h
  exact h.2.2.1
theorem feq_zero_self {x z : Nat} (h : feq x z = true) : feq x x = true := by
  have h1 : Fl.f64.order x z = some .eq := by
    unfold feq at h; exact eq_of_beq h
  have h2 : Fl.f64.order x x = some .eq := by
    unfold Ieee.Format.order at *
    revert h1
    generalize Fl.f64.read x = X
    generalize Fl.f64.read z = Z
    intro h1
    cases X <;> cases Z <;> simp [Ieee.Datum.order] at h1 ⊢
  unfold feq
  have h3 : FloatKind.f64.format.order x x = some .eq := h2
  rw [h3]; rfl
theorem all_same : ∀ p : Pr, p.all = true → same p p = true := by
  intro p
  induction p using ind with
  | h op t n x y k ih =>
    intro h
    simp only [all, Bool.and_eq_true] at h
    have hk : sames k k = true := by
      have h2 := h.2
      clear h
      induction k with
      | nil => simp [sames]
      | cons a l ihl =>
        simp only [alls, Bool.and_eq_true] at h2
        simp only [sames, Bool.and_eq_true]
        exact ⟨ih a (by simp) h2.1, ihl (fun b hb => ih b (by simp [hb])) h2.2⟩
    have hf : feq x x = true ∧ feq y y = true := by
      have h1 := h.1
      unfold partB at h1
      split at h1
      · exact ⟨feq_zero_self (feq_of_bare h1).1, feq_zero_self (feq_of_bare h1).2⟩
      split at h1
      · simp only [Bool.and_eq_true] at h1
        exact ⟨feq_zero_self (feq_of_bare h1.2).1, feq_zero_self (feq_of_bare h1.2).2⟩
      split at h1
      · simp only [Bool.and_eq_true] at h1
        exact ⟨feq_zero_self (feq_of_bare h1.2).1, feq_zero_self (feq_of_bare h1.2).2⟩
      split at h1
      · simp only [Bool.and_eq_true] at h1
        have h3 := h1.1.1
        unfold Proofs.Ytechmejmlelmmaa.mayB at h3
        simp only [Bool.and_eq_true] at h3
        exact ⟨feq_self h3.1, feq_self h3.2⟩
      split at h1
      · exact ⟨feq_zero_self (feq_of_bare h1).1, feq_zero_self (feq_of_bare h1).2⟩
      split at h1
      · simp only [Bool.and_eq_true] at h1
        exact ⟨feq_zero_self (feq_of_bare h1.2).1, feq_zero_self (feq_of_bare h1.2).2⟩
      · cases h1
    simp [same, hk, hf.1, hf.2]
end Pr

end Go.Proofs.Ytechmejmlelmmaa
