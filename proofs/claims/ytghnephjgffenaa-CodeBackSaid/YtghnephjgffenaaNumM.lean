/- Numbers and texts as bytes, bytes as numbers: what was put is got, what is got, put, is those bytes. No walk. -/
import Derived.WalkKit
namespace Go.Proofs.Ytghnephjgffenaa
set_option linter.unusedVariables false
set_option linter.unusedSimpArgs false
set_option maxRecDepth 100000

/-- A number, turned; and back. -/
def zig (n : Int) : Nat := if n < 0 then (-2 * n - 1).toNat else (2 * n).toNat
def zag (u : Nat) : Int := if u % 2 = 0 then ((u / 2 : Nat) : Int) else 0 - (((u + 1) / 2 : Nat) : Int)
theorem zag_zig (n : Int) : zag (zig n) = n := by
  unfold zag zig
  split <;> split <;> omega
theorem zig_zag (u : Nat) : zig (zag u) = u := by
  unfold zag zig
  split <;> split <;> omega
theorem zig_le {n : Int} : zig n ≤ 4294967295 ↔ -2147483648 ≤ n ∧ n ≤ 2147483647 := by
  unfold zig
  split <;> omega
/-- The digits of a number, the least ones first. -/
def digs (u : Nat) : List Nat := if u ≤ 127 then [u] else (128 + u % 128) :: digs (u / 128)
termination_by u
theorem digs_lt (u : Nat) : ∀ b ∈ digs u, b < 256 := by
  induction u using digs.induct with
  | case1 u h => intro b hb; rw [digs, if_pos h] at hb; simp at hb; omega
  | case2 u h ih =>
    intro b hb
    rw [digs, if_neg h] at hb
    rcases List.mem_cons.1 hb with e | e
    · omega
    · exact ih b e
theorem digs_pos (u : Nat) : 0 < (digs u).length := by rw [digs]; split <;> simp
/-- How many, at most. -/
theorem digs_len (k : Nat) : ∀ u, u < 128 ^ (k + 1) → (digs u).length ≤ k + 1 := by
  induction k with
  | zero => intro u h; rw [digs, if_pos (by omega)]; simp
  | succ k ih =>
    intro u h
    rw [digs]
    split
    · simp
    · have := ih (u / 128) (by rw [Nat.pow_succ] at h; omega)
      simp; omega
/-- The digits with which bytes begin: their number, and how many; at most n of them; the last of several isn't 0. -/
def undig : Nat → List Nat → Option (Nat × Nat)
  | 0, _ => none
  | _ + 1, [] => none
  | n + 1, b :: l => if b ≤ 127 then some (b, 1) else match undig n l with
    | none => none
    | some (u, k) => if u = 0 then none else some (b % 128 + 128 * u, k + 1)
theorem undig_digs (n : Nat) : ∀ (u : Nat) (r : List Nat), (digs u).length ≤ n → undig n (digs u ++ r) = some (u, (digs u).length) := by
  induction n with
  | zero => intro u r h; have := digs_pos u; omega
  | succ n ih =>
    intro u r h
    rw [digs] at h ⊢
    split
    · rename_i h1
      simp [undig, h1]
    · rename_i h1
      rw [if_neg h1] at h
      have h2 := ih (u / 128) r (by simpa using h)
      rw [List.cons_append, undig, if_neg (by omega), h2]
      simp only
      rw [if_neg (by omega)]
      simp; omega
theorem undig_take (n : Nat) : ∀ {l : List Nat} {u k : Nat}, (∀ b ∈ l, b < 256) → undig n l = some (u, k) → digs u = l.take k ∧ 0 < k ∧ k ≤ n ∧ k ≤ l.length := by
  induction n with
  | zero => intro l u k _ h; cases h
  | succ n ih =>
    intro l u k hl h
    cases l with
    | nil => cases h
    | cons b l =>
      rw [undig] at h
      have hb := hl b (by simp)
      split at h
      · rename_i h1
        cases h
        rw [digs, if_pos h1]; simp
      · rename_i h1
        split at h
        · cases h
        · rename_i u' k' h2
          split at h
          · cases h
          · rename_i h3
            cases h
            obtain ⟨h4, h5, h6, h7⟩ := ih (fun x hx => hl x (by simp [hx])) h2
            refine ⟨?_, by omega, by omega, by simp; omega⟩
            rw [digs, if_neg (by omega), List.take_succ_cons, show (b % 128 + 128 * u') / 128 = u' by omega, h4]
            congr 1
            omega
/-- A number as bytes; the number with which bytes begin. -/
def numL (n : Int) : List Nat := if -2147483648 ≤ n ∧ n ≤ 2147483647 then digs (zig n) else []
def getN (l : List Nat) : Int × Nat := match undig 5 l with
  | none => (0, 0)
  | some (u, k) => if u ≤ 4294967295 then (zag u, k) else (0, 0)
theorem numL_len {n : Int} (h : -2147483648 ≤ n ∧ n ≤ 2147483647) : 1 ≤ (numL n).length ∧ (numL n).length ≤ 5 := by
  unfold numL
  rw [if_pos h]
  exact ⟨digs_pos _, digs_len 4 _ (Nat.lt_of_le_of_lt (zig_le.2 h) (by decide))⟩
theorem numL_lt (n : Int) : ∀ b ∈ numL n, b < 256 := by
  unfold numL
  split
  · exact digs_lt _
  · simp
theorem get_num {n : Int} (h : -2147483648 ≤ n ∧ n ≤ 2147483647) (r : List Nat) : getN (numL n ++ r) = (n, (numL n).length) := by
  have h1 := (numL_len h).2
  unfold numL at h1 ⊢
  rw [if_pos h] at h1 ⊢
  unfold getN
  rw [undig_digs 5 _ r h1]
  simp only
  rw [if_pos (zig_le.2 h), zag_zig]
theorem num_get {l : List Nat} (hl : ∀ b ∈ l, b < 256) (h : 0 < (getN l).2) : numL (getN l).1 = l.take (getN l).2 := by
  unfold getN at h ⊢
  split at h
  · exact absurd h (by simp)
  · rename_i u k h1
    obtain ⟨h2, h3, h4, h5⟩ := undig_take 5 hl h1
    split at h
    · rename_i h6
      simp only [if_pos h6]
      unfold numL
      rw [if_pos (zig_le.1 (by rw [zig_zag]; exact h6)), zig_zag, h2]
    · exact absurd h (by simp)
theorem getN_le {l : List Nat} (hl : ∀ b ∈ l, b < 256) : (getN l).2 ≤ l.length ∧ (getN l).2 ≤ 5 ∧ (-2147483648 ≤ (getN l).1 ∧ (getN l).1 ≤ 2147483647) := by
  unfold getN
  split
  · simp
  · rename_i u k h1
    obtain ⟨h2, h3, h4, h5⟩ := undig_take 5 hl h1
    split
    · rename_i h6
      exact ⟨h5, h4, zig_le.1 (by rw [zig_zag]; exact h6)⟩
    · simp
/-- A text as bytes; the text with which bytes begin. -/
def txtL (s : List Nat) : List Nat := if s.length ≤ 8 then 2 * s.length :: s else []
def getT (l : List Nat) : List Nat × Nat :=
  if (getN l).2 = 0 ∨ (getN l).1 < 0 ∨ 8 < (getN l).1 ∨ (l.length : Int) < (getN l).2 + (getN l).1 then ([], 0)
  else ((l.drop (getN l).2).take (getN l).1.toNat, (getN l).2 + (getN l).1.toNat)
theorem numL_small {n : Nat} (h : n ≤ 8) : numL n = [2 * n] := by
  unfold numL zig
  rw [if_pos (by omega), if_neg (by omega), digs, if_pos (by omega)]
  simp; omega
theorem get_text {s : List Nat} (h : s.length ≤ 8) (r : List Nat) : getT (txtL s ++ r) = (s, s.length + 1) := by
  have e : txtL s ++ r = numL s.length ++ (s ++ r) := by
    unfold txtL
    rw [if_pos h, numL_small h]; rfl
  have h2 := get_num (n := s.length) (by omega) (s ++ r)
  rw [← e, numL_small h] at h2
  unfold getT
  rw [h2]
  simp only
  rw [if_neg (by rw [e, numL_small h]; simp; omega), e, numL_small h]
  simp; omega
theorem text_get {l : List Nat} (hl : ∀ b ∈ l, b < 256) (h : 0 < (getT l).2) : txtL (getT l).1 = l.take (getT l).2 ∧ (getT l).2 ≤ l.length := by
  unfold getT at h ⊢
  split at h
  · exact absurd h (by simp)
  · rename_i h1
    simp only [if_neg h1]
    have h2 : 0 < (getN l).2 := by omega
    have h3 := num_get hl h2
    have h4 := (getN_le hl).1
    obtain ⟨n, hn⟩ : ∃ n : Nat, (getN l).1 = n := ⟨(getN l).1.toNat, by omega⟩
    rw [hn] at h1 h3 ⊢
    rw [numL_small (by omega)] at h3
    have h5 := congrArg List.length h3
    simp at h5
    generalize (getN l).2 = k at *
    have hk : k = 1 := by omega
    subst hk
    cases l with
    | nil => simp at h4
    | cons b l =>
      simp at h3 h1 ⊢
      unfold txtL
      have hlen : (l.take n).length = n := by simp; omega
      rw [hlen, if_pos (by omega), h3]
      refine ⟨?_, by omega⟩
      rw [Nat.add_comm 1 n, List.take_succ_cons]
theorem getT_le {l : List Nat} (hl : ∀ b ∈ l, b < 256) : (getT l).2 ≤ l.length ∧ (getT l).1.length ≤ 8 := by
  have h4 := (getN_le hl).1
  unfold getT
  split
  · simp
  · simp; omega
/-! ### Digit by digit -/
def lowN : List Nat → Nat
  | [] => 0
  | b :: l => b % 128 + 128 * lowN l
theorem lowN_snoc (b : Nat) : ∀ l : List Nat, lowN (l ++ [b]) = lowN l + 128 ^ l.length * (b % 128)
  | [] => by simp [lowN]
  | c :: l => by
    rw [List.cons_append, lowN, lowN, lowN_snoc b l, List.length_cons, Nat.pow_succ, Nat.mul_add, ← Nat.mul_assoc, Nat.mul_comm 128 (128 ^ l.length), Nat.add_assoc]
theorem lowN_lt : ∀ l : List Nat, lowN l < 128 ^ l.length
  | [] => by simp [lowN]
  | c :: l => by
    have := lowN_lt l
    rw [lowN, List.length_cons, Nat.pow_succ]
    omega
theorem undig_high : ∀ (k n : Nat) (l : List Nat), k ≤ l.length → (∀ b ∈ l.take k, 127 < b) → undig (n + k) l = match undig n (l.drop k) with
    | none => none
    | some (u, j) => if 0 < k ∧ u = 0 then none else some (lowN (l.take k) + 128 ^ k * u, j + k)
  | 0, n, l, _, _ => by
    simp [lowN]
    cases undig n l <;> rfl
  | k + 1, n, [], h, _ => by simp at h
  | k + 1, n, b :: l, h, hb => by
    have h1 : 127 < b := hb b (by simp)
    have ih := undig_high k n l (by simpa using h) (fun c hc => hb c (by simp [hc]))
    rw [show n + (k + 1) = (n + k) + 1 by omega, undig, if_neg (by omega), ih, List.drop_succ_cons]
    cases undig n (l.drop k) with
    | none => rfl
    | some p =>
      obtain ⟨u, j⟩ := p
      by_cases hu : u = 0
      · subst hu
        by_cases hk : 0 < k
        · simp [hk]
        · obtain rfl : k = 0 := by omega
          simp [lowN]
      · have h2 : 0 < 128 ^ k * u := Nat.mul_pos (Nat.pow_pos (by omega)) (by omega)
        simp only [hu, and_false, if_false]
        rw [if_neg (by omega), List.take_succ_cons, lowN, Nat.pow_succ, Nat.mul_add, ← Nat.mul_assoc, Nat.mul_comm 128 (128 ^ k)]
        congr 2
        omega
/-- No digit of less than 128 among the first k of l. -/
def HighN (l : List Nat) (k : Nat) : Prop := ∀ b ∈ l.take k, 127 < b
theorem HighN.zero (l : List Nat) : HighN l 0 := by intro b hb; simp at hb
theorem HighN.step {l : List Nat} {k b : Nat} (h : HighN l k) (hb : l[k]? = some b) (h1 : 127 < b) : HighN l (k + 1) := by
  intro c hc
  obtain ⟨hk, e⟩ := List.getElem?_eq_some_iff.1 hb
  rw [List.take_succ_eq_append_getElem hk, e] at hc
  rcases List.mem_append.1 hc with hc | hc
  · exact h c hc
  · simp at hc; omega
theorem getN_end {l : List Nat} {k : Nat} (h : HighN l k) (hk : k = l.length) (h5 : k ≤ 5) : getN l = (0, 0) := by
  have := undig_high k (5 - k) l (by omega) h
  unfold getN
  rw [show 5 = 5 - k + k by omega, this, List.drop_eq_nil_of_le (by omega)]
  cases 5 - k <;> rfl
theorem getN_five {l : List Nat} (h : HighN l 5) (hk : 5 ≤ l.length) : getN l = (0, 0) := by
  have := undig_high 5 0 l (by omega) h
  unfold getN
  rw [show 5 = 0 + 5 by omega, this]
  rfl
theorem getN_last {l : List Nat} {k b : Nat} (h : HighN l k) (h5 : k < 5) (hb : l[k]? = some b) (h1 : b ≤ 127) :
    getN l = if 0 < k ∧ b = 0 then (0, 0) else if lowN (l.take k) + 128 ^ k * b ≤ 4294967295 then (zag (lowN (l.take k) + 128 ^ k * b), k + 1) else (0, 0) := by
  obtain ⟨hk, e⟩ := List.getElem?_eq_some_iff.1 hb
  have := undig_high k (4 - k + 1) l (by omega) h
  unfold getN
  rw [show 5 = 4 - k + 1 + k by omega, this, List.drop_eq_getElem_cons hk, e, undig, if_pos h1]
  by_cases h2 : 0 < k ∧ b = 0
  · simp only [h2, and_self, if_true]
  · simp only [h2, if_false]
    rw [Nat.add_comm 1 k]
end Go.Proofs.Ytghnephjgffenaa
