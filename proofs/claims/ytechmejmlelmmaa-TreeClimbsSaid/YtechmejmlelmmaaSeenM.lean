/- Which filter is seen in which: plain mathematics. No walk. -/
import Derived.Test.YtechmejmlelmmaaHasM
namespace Go.Proofs.Ytechmejmlelmmaa
set_option linter.unusedVariables false
set_option linter.unusedSimpArgs false
set_option maxRecDepth 100000
namespace Pr

/-- Seen, by as many steps as n. -/
def seenF : Nat → Pr → Pr → Bool
  | 0, _, _ => false
  | n + 1, p, q =>
    ((decide (q.op = 1) || decide (p.op = 2)) || same p q) ||
    ((((decide (p.op = 9) && p.kids.all fun k => seenF n k q) || (decide (p.op = 8) && p.kids.any fun k => seenF n k q)) || ((decide (q.op = 8) && q.kids.all fun k => seenF n p k) || (decide (q.op = 9) && q.kids.any fun k => seenF n p k))) ||
    (decide (p.op = q.op) && (if p.op = 4 then begB p.text q.text else if p.op = 5 then decide (p.n ≤ q.n) else if p.op = 6 then decide (q.n ≤ p.n) else if p.op = 7 then (feq p.x q.x && (feq p.y q.y && decide (p.n ≤ q.n)))
      else if p.op = 10 then (match p.kids, q.kids with | a :: _, b :: _ => seenF n b a | _, _ => false) else false)))
def seenB (p q : Pr) : Bool := seenF (p.size + q.size) p q

theorem all_congr {l : List Pr} {f g : Pr → Bool} (h : ∀ k ∈ l, f k = g k) : l.all f = l.all g := by
  induction l with
  | nil => rfl
  | cons a l ih => rw [List.all_cons, List.all_cons, h a (by simp), ih fun k hk => h k (by simp [hk])]
theorem any_congr {l : List Pr} {f g : Pr → Bool} (h : ∀ k ∈ l, f k = g k) : l.any f = l.any g := by
  induction l with
  | nil => rfl
  | cons a l ih => rw [List.any_cons, List.any_cons, h a (by simp), ih fun k hk => h k (by simp [hk])]
theorem kid_size {p k : Pr} (h : k ∈ p.kids) : k.size + 1 ≤ p.size := by
  have := size_mem h; have := size_kids p; omega
theorem seenF_eq : ∀ (n m : Nat) (p q : Pr), p.size + q.size ≤ n → p.size + q.size ≤ m → seenF n p q = seenF m p q := by
  intro n
  induction n with
  | zero => intro m p q h; have := size_pos p; omega
  | succ n ih =>
    intro m p q h1 h2
    cases m with
    | zero => have := size_pos p; omega
    | succ m =>
      have e1 : ∀ k ∈ p.kids, seenF n k q = seenF m k q := fun k hk => ih m k q (by have := kid_size hk; omega) (by have := kid_size hk; omega)
      have e2 : ∀ k ∈ q.kids, seenF n p k = seenF m p k := fun k hk => ih m p k (by have := kid_size hk; omega) (by have := kid_size hk; omega)
      have e3 : ∀ a ∈ p.kids, ∀ b ∈ q.kids, seenF n b a = seenF m b a := fun a ha b hb => ih m b a (by have := kid_size ha; have := kid_size hb; omega) (by have := kid_size ha; have := kid_size hb; omega)
      unfold seenF
      rw [all_congr e1, any_congr e1, all_congr e2, any_congr e2]
      congr 3
      revert e3
      generalize p.kids = l
      generalize q.kids = l'
      intro e3
      cases l with
      | nil => rfl
      | cons a l => cases l' with
        | nil => rfl
        | cons b l' => simp only [e3 a (by simp) b (by simp)]
def kidB : List Pr → List Pr → Bool
  | a :: _, b :: _ => seenB b a
  | _, _ => false
def listsB (p q : Pr) : Bool := ((decide (p.op = 9) && p.kids.all fun k => seenB k q) || (decide (p.op = 8) && p.kids.any fun k => seenB k q)) || ((decide (q.op = 8) && q.kids.all fun k => seenB p k) || (decide (q.op = 9) && q.kids.any fun k => seenB p k))
def restB (p q : Pr) : Bool := decide (p.op = q.op) && (if p.op = 4 then begB p.text q.text else if p.op = 5 then decide (p.n ≤ q.n) else if p.op = 6 then decide (q.n ≤ p.n) else if p.op = 7 then (feq p.x q.x && (feq p.y q.y && decide (p.n ≤ q.n)))
      else if p.op = 10 then kidB p.kids q.kids else false)
theorem restB_node (op : Int) (t : ByteArray) (n : Int) (x y : Nat) (l : List Pr) (op' : Int) (t' : ByteArray) (n' : Int) (x' y' : Nat) (l' : List Pr) : restB (node op t n x y l) (node op' t' n' x' y' l') =
    (decide (op = op') && (if op = 4 then begB t t' else if op = 5 then decide (n ≤ n') else if op = 6 then decide (n' ≤ n) else if op = 7 then (feq x x' && (feq y y' && decide (n ≤ n'))) else if op = 10 then kidB l l' else false)) := rfl
theorem seenB_eq (p q : Pr) : seenB p q = (((decide (q.op = 1) || decide (p.op = 2)) || same p q) || (listsB p q || restB p q)) := by
  obtain ⟨n, hn⟩ : ∃ n, p.size + q.size = n + 1 := ⟨p.size + q.size - 1, by have := size_pos p; omega⟩
  have e1 : ∀ k ∈ p.kids, seenF n k q = seenB k q := fun k hk => seenF_eq n _ k q (by have := kid_size hk; omega) (Nat.le_refl _)
  have e2 : ∀ k ∈ q.kids, seenF n p k = seenB p k := fun k hk => seenF_eq n _ p k (by have := kid_size hk; omega) (Nat.le_refl _)
  have e3 : ∀ a ∈ p.kids, ∀ b ∈ q.kids, seenF n b a = seenB b a := fun a ha b hb => seenF_eq n _ b a (by have := kid_size ha; have := kid_size hb; omega) (Nat.le_refl _)
  rw [seenB, hn, seenF]
  rw [all_congr e1, any_congr e1, all_congr e2, any_congr e2]
  unfold listsB restB
  congr 3
  revert e3
  generalize p.kids = l
  generalize q.kids = l'
  intro e3
  cases l with
  | nil => rfl
  | cons a l => cases l' with
    | nil => rfl
    | cons b l' => simp only [kidB, e3 a (by simp) b (by simp)]

/-! ### What is seen is so -/
theorem hasAll_iff {i : It} {l : List Pr} : hasAll i l = true ↔ ∀ k ∈ l, hasB i k = true := by
  induction l with
  | nil => simp [hasAll]
  | cons a l ih => simp [hasAll, ih]
theorem hasAny_iff {i : It} {l : List Pr} : hasAny i l = true ↔ ∃ k ∈ l, hasB i k = true := by
  induction l with
  | nil => simp [hasAny]
  | cons a l ih => simp [hasAny, ih]
theorem beg_trans {a b c : ByteArray} (h1 : begB b c = true) (h2 : begB a b = true) : begB a c = true := by
  unfold begB at *
  rw [List.isPrefixOf_iff_prefix] at *
  exact h1.trans h2
theorem has_prefix {i : It} {k : Pr} (h : k.op = 4) : hasB i k = begB i.id k.text := by cases k; simp only [op_node] at h; subst h; simp [hasB, text]
theorem has_less {i : It} {k : Pr} (h : k.op = 5) : hasB i k = decide (i.num < k.n) := by cases k; simp only [op_node] at h; subst h; simp [hasB]; rfl
theorem has_more {i : It} {k : Pr} (h : k.op = 6) : hasB i k = decide (k.n ≤ i.num) := by cases k; simp only [op_node] at h; subst h; simp [hasB]; rfl
theorem has_near {i : It} {k : Pr} (h : k.op = 7) : hasB i k = nearB i.ax i.ay k.x k.y k.n := by cases k; simp only [op_node] at h; subst h; simp [hasB, n, x, y]
theorem near_wb {k : Pr} (ha : k.all = true) (h : k.op = 7) : Fl.wb k.x = true ∧ Fl.wb k.y = true := by
  cases k; simp only [op_node] at h; subst h
  simp only [all, Bool.and_eq_true] at ha
  exact part_near ha.1
theorem near_more {a b x y : Nat} {n m : Int} (h : nearB a b x y n = true) (hn : n ≤ m) : nearB a b x y m = true := by
  unfold nearB at *
  simp only [Bool.and_eq_true, decide_eq_true_eq] at *
  omega
theorem seen_sound (i : It) : ∀ (n : Nat) (p q : Pr), p.size + q.size ≤ n → p.all = true → q.all = true → seenB p q = true → hasB i p = true → hasB i q = true := by
  intro n
  induction n with
  | zero => intro p q h; have := size_pos p; omega
  | succ n ih =>
    intro p q hs hp hq hsn hh
    have hpk : ∀ k ∈ p.kids, k.all = true ∧ k.size + 1 ≤ p.size := fun k hk => ⟨alls_iff.1 (all_kids hp) k hk, kid_size hk⟩
    have hqk : ∀ k ∈ q.kids, k.all = true ∧ k.size + 1 ≤ q.size := fun k hk => ⟨alls_iff.1 (all_kids hq) k hk, kid_size hk⟩
    rw [seenB_eq] at hsn
    simp only [Bool.or_eq_true, decide_eq_true_eq] at hsn
    rcases hsn with ((h | h) | h) | h | h
    · exact has_star h
    · rw [has_none h] at hh; cases hh
    · rwa [same_has i p q hp hq h] at hh
    · unfold listsB at h
      simp only [Bool.or_eq_true, Bool.and_eq_true, decide_eq_true_eq, List.all_eq_true, List.any_eq_true] at h
      rcases h with (⟨ho, h⟩ | ⟨ho, k, hk, h⟩) | ⟨ho, h⟩ | ⟨ho, k, hk, h⟩
      · rw [has_or ho, hasAny_iff] at hh
        obtain ⟨k, hk, hh⟩ := hh
        exact ih k q (by have := (hpk k hk).2; omega) (hpk k hk).1 hq (h k hk) hh
      · rw [has_and ho, hasAll_iff] at hh
        exact ih k q (by have := (hpk k hk).2; omega) (hpk k hk).1 hq h (hh k hk)
      · rw [has_and ho, hasAll_iff]
        intro k hk
        exact ih p k (by have := (hqk k hk).2; omega) hp (hqk k hk).1 (h k hk) hh
      · rw [has_or ho, hasAny_iff]
        exact ⟨k, hk, ih p k (by have := (hqk k hk).2; omega) hp (hqk k hk).1 h hh⟩
    · unfold restB at h
      simp only [Bool.and_eq_true, decide_eq_true_eq] at h
      obtain ⟨ho, h⟩ := h
      have ho' : q.op = p.op := ho.symm
      by_cases e4 : p.op = 4
      · rw [if_pos e4] at h
        rw [has_prefix e4] at hh
        rw [has_prefix (ho'.trans e4)]
        exact beg_trans h hh
      rw [if_neg e4] at h
      by_cases e5 : p.op = 5
      · rw [if_pos e5, decide_eq_true_eq] at h
        rw [has_less e5, decide_eq_true_eq] at hh
        rw [has_less (ho'.trans e5), decide_eq_true_eq]; omega
      rw [if_neg e5] at h
      by_cases e6 : p.op = 6
      · rw [if_pos e6, decide_eq_true_eq] at h
        rw [has_more e6, decide_eq_true_eq] at hh
        rw [has_more (ho'.trans e6), decide_eq_true_eq]; omega
      rw [if_neg e6] at h
      by_cases e7 : p.op = 7
      · rw [if_pos e7] at h
        simp only [Bool.and_eq_true, decide_eq_true_eq] at h
        rw [has_near e7] at hh
        rw [has_near (ho'.trans e7)]
        obtain ⟨w1, w2⟩ := near_wb hp e7
        obtain ⟨w3, w4⟩ := near_wb hq (ho'.trans e7)
        rw [near_same h.1 h.2.1 w1 w3 w2 w4] at hh
        exact near_more hh h.2.2
      rw [if_neg e7] at h
      by_cases e10 : p.op = 10
      · rw [if_pos e10] at h
        rw [has_not e10] at hh
        rw [has_not (ho'.trans e10)]
        revert hpk hqk h hh
        generalize p.kids = l
        generalize q.kids = l'
        intro hh hpk hqk h
        cases l with
        | nil => simp [hasNot] at hh
        | cons a l => cases l' with
          | nil => simp [kidB] at h
          | cons b l' =>
            simp only [hasNot, Bool.not_eq_true'] at hh ⊢
            simp only [kidB] at h
            cases hb : hasB i b with
            | false => rfl
            | true =>
              have := ih b a (by have := (hpk a (by simp)).2; have := (hqk b (by simp)).2; omega) (hqk b (by simp)).1 (hpk a (by simp)).1 h hb
              rw [this] at hh; cases hh
      rw [if_neg e10] at h; cases h
def inB (p q : Pr) : Bool := (p.mayB && q.mayB) && seenB p q
end Pr

end Go.Proofs.Ytechmejmlelmmaa
