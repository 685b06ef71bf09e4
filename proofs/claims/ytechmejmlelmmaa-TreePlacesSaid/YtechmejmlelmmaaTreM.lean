/- Who pulls from whom: plain mathematics. No walk. -/
import Derived.Test.YtechmejmlelmmaaInM
namespace Go.Proofs.Ytechmejmlelmmaa
set_option linter.unusedVariables false
set_option linter.unusedSimpArgs false
set_option maxRecDepth 100000

def inL (l : List Pr) (i k : Nat) : Bool := match l[i]?, l[k]? with | some p, some q => Pr.inB p q | _, _ => false
def trBest (r : Nat) (s : Nat → Nat × Nat) (inn : Nat → Bool) : Nat → Nat
  | 0 => r
  | k + 1 => if k ≠ r ∧ inn k = true ∧ (s (trBest r s inn k)).2 < (s k).2 then k else trBest r s inn k
def trNode (s : Nat → Nat × Nat) (b : Nat) : Nat × Nat := (b + 1, (s b).2 + 1)
def trPut (s : Nat → Nat × Nat) (i : Nat) (x : Nat × Nat) : Nat → Nat × Nat := fun k => if k = i then x else s k
def trS (r : Nat) (inn : Nat → Nat → Bool) : Nat → Nat → Nat × Nat
  | 0 => fun _ => (0, 0)
  | i + 1 => if i = r then trS r inn i else trPut (trS r inn i) i (trNode (trS r inn i) (trBest r (trS r inn i) (inn i) i))
def trPl (r : Nat) : Nat → List Nat
  | 0 => [r]
  | i + 1 => if i = r then trPl r i else trPl r i ++ [i]
def trLow1 (s : Nat → Nat × Nat) (inn : Nat → Bool) (n : Nat × Nat) (j : Nat) : Nat × Nat := if n.2 ≤ (s j).2 ∧ inn j = true then trNode s j else n
def trLow (s : Nat → Nat × Nat) (inn : Nat → Bool) (l : List Nat) : Nat × Nat := l.foldl (trLow1 s inn) (0, 0)

theorem trS_root (r : Nat) (inn : Nat → Nat → Bool) (i : Nat) : trS r inn i r = (0, 0) := by
  induction i with
  | zero => rfl
  | succ i ih =>
    unfold trS
    by_cases h : i = r
    · rw [if_pos h]; exact ih
    · rw [if_neg h]; unfold trPut; rw [if_neg (fun e => h e.symm)]; exact ih
theorem trS_hi (r : Nat) (inn : Nat → Nat → Bool) (i k : Nat) (h : i ≤ k) : trS r inn i k = (0, 0) := by
  induction i with
  | zero => rfl
  | succ i ih =>
    unfold trS
    by_cases e : i = r
    · rw [if_pos e]; exact ih (by omega)
    · rw [if_neg e]; unfold trPut; rw [if_neg (by omega)]; exact ih (by omega)
theorem trS_lo (r : Nat) (inn : Nat → Nat → Bool) (i k : Nat) (h : k < i) (j : Nat) (hj : i ≤ j) : trS r inn j k = trS r inn i k := by
  induction j with
  | zero => omega
  | succ j ih =>
    by_cases e : i = j + 1
    · rw [e]
    · have h1 := ih (by omega)
      rw [← h1]
      rw [show trS r inn (j + 1) = (if j = r then trS r inn j else trPut (trS r inn j) j (trNode (trS r inn j) (trBest r (trS r inn j) (inn j) j))) from rfl]
      by_cases e2 : j = r
      · rw [if_pos e2]
      · rw [if_neg e2]; unfold trPut; rw [if_neg (by omega)]
theorem trS_lev (r : Nat) (inn : Nat → Nat → Bool) (i : Nat) : ∀ k, (trS r inn i k).2 ≤ i := by
  induction i with
  | zero => intro k; exact Nat.le_refl _
  | succ i ih =>
    intro k
    rw [show trS r inn (i + 1) = (if i = r then trS r inn i else trPut (trS r inn i) i (trNode (trS r inn i) (trBest r (trS r inn i) (inn i) i))) from rfl]
    by_cases e2 : i = r
    · rw [if_pos e2]; have := ih k; omega
    · rw [if_neg e2]; unfold trPut trNode
      by_cases e : k = i
      · rw [if_pos e]; have := ih (trBest r (trS r inn i) (inn i) i); show _ + 1 ≤ _; omega
      · rw [if_neg e]; have := ih k; omega
theorem trBest_is (r : Nat) (s : Nat → Nat × Nat) (inn : Nat → Bool) (i : Nat) : trBest r s inn i = r ∨ (trBest r s inn i < i ∧ trBest r s inn i ≠ r ∧ inn (trBest r s inn i) = true) := by
  induction i with
  | zero => exact .inl rfl
  | succ i ih =>
    unfold trBest
    split
    · rename_i h; exact .inr ⟨by omega, h.1, h.2.1⟩
    · rcases ih with h | ⟨h1, h2⟩
      · exact .inl h
      · exact .inr ⟨by omega, h2⟩
theorem trBest_top (r : Nat) (s : Nat → Nat × Nat) (inn : Nat → Bool) (i : Nat) : ∀ k, k < i → k ≠ r → inn k = true → (s k).2 ≤ (s (trBest r s inn i)).2 := by
  induction i with
  | zero => intro k hk; omega
  | succ i ih =>
    intro k hk h1 h2
    unfold trBest
    split
    · rename_i h
      by_cases e : k = i
      · rw [e]; exact Nat.le_refl _
      · exact Nat.le_trans (ih k (by omega) h1 h2) (by omega)
    · rename_i h
      by_cases e : k = i
      · subst e
        rcases Nat.lt_or_ge (s (trBest r s inn k)).2 (s k).2 with h3 | h3
        · exact absurd ⟨h1, h2, h3⟩ h
        · exact h3
      · exact ih k (by omega) h1 h2
theorem trBest_lt (r n : Nat) (s : Nat → Nat × Nat) (inn : Nat → Bool) (i : Nat) (hr : r < n) (hi : i ≤ n) : trBest r s inn i < n := by
  rcases trBest_is r s inn i with h | ⟨h, _⟩ <;> omega
theorem trLow_is (r : Nat) (s : Nat → Nat × Nat) (inn : Nat → Bool) (h0 : s r = (0, 0)) (hr : inn r = true) (i : Nat) : trLow s inn (trPl r i) = trNode s (trBest r s inn i) := by
  induction i with
  | zero => simp [trLow, trPl, trLow1, trBest, hr, h0]
  | succ i ih =>
    unfold trPl trBest
    by_cases e : i = r
    · rw [if_pos e, if_neg (by intro h; exact h.1 e)]; exact ih
    · rw [if_neg e]
      unfold trLow at *
      rw [List.foldl_append, ih]
      simp only [List.foldl_cons, List.foldl_nil]
      unfold trLow1
      by_cases h : inn i = true ∧ (s (trBest r s inn i)).2 < (s i).2
      · rw [if_pos ⟨by show _ + 1 ≤ _; omega, h.1⟩, if_pos ⟨e, h⟩]
      · rw [if_neg (by rintro ⟨h1, h2⟩; exact h ⟨h2, by have : _ + 1 ≤ _ := h1; omega⟩), if_neg (fun h1 => h h1.2)]
theorem trPl_lt (r n i : Nat) (hr : r < n) (hi : i ≤ n) : ∀ j ∈ trPl r i, j < n := by
  induction i with
  | zero => intro j hj; simp [trPl] at hj; omega
  | succ i ih =>
    unfold trPl
    split
    · exact ih (by omega)
    · intro j hj
      rcases List.mem_append.1 hj with h | h
      · exact ih (by omega) j h
      · simp at h; omega
theorem trPl_len (r i : Nat) : (trPl r i).length ≤ i + 1 := by
  induction i with
  | zero => simp [trPl]
  | succ i ih =>
    unfold trPl
    split
    · omega
    · simp; exact ih
theorem trLow_lev (s : Nat → Nat × Nat) (inn : Nat → Bool) (l : List Nat) (B : Nat) (h : ∀ k, (s k).2 ≤ B) : (trLow s inn l).2 ≤ B + 1 := by
  have : ∀ (l : List Nat) (n : Nat × Nat), n.2 ≤ B + 1 → (l.foldl (trLow1 s inn) n).2 ≤ B + 1 := by
    intro l
    induction l with
    | nil => intro n h; exact h
    | cons a l ih =>
      intro n hn
      refine ih _ ?_
      unfold trLow1
      split
      · have := h a; show _ + 1 ≤ _; omega
      · exact hn
  exact this l _ (Nat.zero_le _)

/-- The root, if there is one and all may be. -/
def trRoot (l : List Pr) : Option Nat := if l.length ≤ 8 ∧ l.all Pr.mayB = true then l.findIdx? (fun p => p.op == 1) else none
def trSf (l : List Pr) (r : Nat) : Nat → Nat × Nat := trS r (inL l) l.length
def trPlace (l : List Pr) : List (Nat × Nat) := match trRoot l with | none => [] | some r => (List.range l.length).map (trSf l r)

theorem trRoot_some {l : List Pr} {r : Nat} (h : trRoot l = some r) : l.length ≤ 8 ∧ l.all Pr.mayB = true ∧ r < l.length ∧ (∃ p, l[r]? = some p ∧ p.op = 1) ∧ ∀ k p, k < r → l[k]? = some p → p.op ≠ 1 := by
  unfold trRoot at h
  split at h
  · rename_i h0
    obtain ⟨hr, hp, hlo⟩ := List.findIdx?_eq_some_iff_getElem.1 h
    refine ⟨h0.1, h0.2, hr, ⟨l[r], List.getElem?_eq_getElem hr, by simpa using hp⟩, fun k p hk hkp => ?_⟩
    have := hlo k hk
    obtain ⟨h1, h2⟩ := List.getElem?_eq_some_iff.1 hkp
    subst h2
    simpa using this
  · cases h
theorem inL_root {l : List Pr} {r i : Nat} (h : trRoot l = some r) (hi : i < l.length) : inL l i r = true := by
  obtain ⟨_, ha, hr, ⟨p, hp, h1⟩, _⟩ := trRoot_some h
  unfold inL
  rw [List.getElem?_eq_getElem hi, hp]
  show Pr.inB _ _ = true
  unfold Pr.inB
  rw [List.all_eq_true] at ha
  rw [ha _ (List.getElem_mem hi), ha _ (List.mem_of_getElem? hp), Pr.seenB_eq]
  simp [h1]
theorem inL_at {l : List Pr} {i k : Nat} {p q : Pr} (hp : l[i]? = some p) (hq : l[k]? = some q) : inL l i k = Pr.inB p q := by unfold inL; rw [hp, hq]
/-- What follows. -/
theorem trSf_root (l : List Pr) (r : Nat) : trSf l r r = (0, 0) := trS_root _ _ _
theorem trSf_at {l : List Pr} {r i : Nat} (h : trRoot l = some r) (hi : i < l.length) (hne : i ≠ r) : ∃ b, (trSf l r i).1 = b + 1 ∧ b < l.length ∧ (b = r ∨ b < i) ∧ (trSf l r i).2 = (trSf l r b).2 + 1 ∧ inL l i b = true ∧ ∀ k, k < i → inL l i k = true → (trSf l r k).2 ≤ (trSf l r b).2 := by
  obtain ⟨_, ha, hr, _, _⟩ := trRoot_some h
  have e : trSf l r i = trNode (trS r (inL l) i) (trBest r (trS r (inL l) i) (inL l i) i) := by
    unfold trSf
    rw [trS_lo r (inL l) (i + 1) i (by omega) l.length hi]
    rw [show trS r (inL l) (i + 1) = (if i = r then trS r (inL l) i else trPut (trS r (inL l) i) i (trNode (trS r (inL l) i) (trBest r (trS r (inL l) i) (inL l i) i))) from rfl, if_neg hne]
    unfold trPut; rw [if_pos rfl]
  have hst : ∀ k, k < i ∨ k = r → trSf l r k = trS r (inL l) i k := by
    intro k hk
    rcases hk with hk | hk
    · exact trS_lo r (inL l) i k hk l.length (by omega)
    · rw [hk, trSf_root, trS_root]
  have hb := trBest_is r (trS r (inL l) i) (inL l i) i
  have hbt := trBest_top r (trS r (inL l) i) (inL l i) i
  have hbl := trBest_lt r l.length (trS r (inL l) i) (inL l i) i hr (by omega)
  generalize trBest r (trS r (inL l) i) (inL l i) i = b at *
  refine ⟨b, by rw [e]; rfl, hbl, ?_, ?_, ?_, ?_⟩
  · rcases hb with h | h
    · exact .inl h
    · exact .inr h.1
  · rw [e, hst b (by rcases hb with h | h; exact .inr h; exact .inl h.1)]; rfl
  · rcases hb with h2 | h2
    · rw [h2]; exact inL_root h hi
    · exact h2.2.2
  · intro k hk hkin
    rw [hst k (.inl hk), hst b (by rcases hb with h | h; exact .inr h; exact .inl h.1)]
    by_cases hkr : k = r
    · rw [hkr, trS_root]; exact Nat.zero_le _
    · exact hbt k hk hkr hkin
theorem trSf_lev (l : List Pr) (r i : Nat) : (trSf l r i).2 ≤ l.length := trS_lev _ _ _ _
/-- Parent by parent. -/
def trUp (l : List Pr) (r : Nat) : Nat → Nat → Nat
  | 0, a => a
  | n + 1, a => trUp l r n ((trSf l r (a - 1)).1)
theorem trUp_end (l : List Pr) (r : Nat) (n : Nat) (a : Nat) : trUp l r (n + 1) a = (trSf l r (trUp l r n a - 1)).1 := by
  induction n generalizing a with
  | zero => rfl
  | succ n ih => exact ih _
theorem trUp_in {l : List Pr} {r : Nat} (h : trRoot l = some r) (i : Nat) (hi : i < l.length) (n : Nat) (hn : n ≤ (trSf l r i).2) : 1 ≤ trUp l r n (i + 1) ∧ trUp l r n (i + 1) ≤ l.length ∧ (trSf l r (trUp l r n (i + 1) - 1)).2 + n = (trSf l r i).2 := by
  induction n with
  | zero => exact ⟨by show 1 ≤ i + 1; omega, by show i + 1 ≤ _; omega, by simp [trUp]⟩
  | succ n ih =>
    obtain ⟨h1, h2, h3⟩ := ih (by omega)
    rw [trUp_end]
    generalize trUp l r n (i + 1) = a at *
    have hne : a - 1 ≠ r := by
      intro e
      rw [e, trSf_root] at h3
      simp at h3; omega
    obtain ⟨b, e1, e2, _, e4, _⟩ := trSf_at h (show a - 1 < l.length by omega) hne
    rw [e1]
    refine ⟨by omega, by omega, ?_⟩
    show (trSf l r (b + 1 - 1)).2 + (n + 1) = _
    rw [show b + 1 - 1 = b by omega]
    omega
theorem trUp_root {l : List Pr} {r : Nat} (h : trRoot l = some r) (i : Nat) (hi : i < l.length) : trUp l r (trSf l r i).2 (i + 1) = r + 1 := by
  obtain ⟨h1, h2, h3⟩ := trUp_in h i hi _ (Nat.le_refl _)
  generalize trUp l r (trSf l r i).2 (i + 1) = a at *
  have h4 : (trSf l r (a - 1)).2 = 0 := by omega
  by_cases hne : a - 1 = r
  · omega
  · obtain ⟨b, _, _, _, e4, _⟩ := trSf_at h (show a - 1 < l.length by omega) hne
    omega
end Go.Proofs.Ytechmejmlelmmaa
