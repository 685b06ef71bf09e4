/- Plain facts on the model's float64 words: which words are whole numbers, what their sum, difference, cut towards zero and order are. Conditions: the numbers are at most 4000 in size. -/
import Derived.Laws.ComplexArith
namespace Go.Proofs.Ytechmejmlelmmaa
set_option linter.unusedVariables false
set_option linter.unusedSimpArgs false
set_option maxRecDepth 100000
namespace Fl
open Ieee

def f64 : Format := Ieee.double

theorem cut_zero_place (way : Toward) (neg : Bool) (n : Nat) : way.cut neg n 0 = n := by
  cases way <;> simp [Toward.cut, Nat.mod_one] <;> omega

theorem cut_exact (way : Toward) (neg : Bool) (n D : Nat) (h : D ≤ n.log2 + 2) (hd : n % 2 ^ D = 0) : way.cut neg n D = n / 2 ^ D := by
  have e : min D (n.log2 + 2) = D := by omega
  have p : 0 < 2 ^ D := Nat.two_pow_pos D
  cases way <;> simp [Toward.cut, e, Nat.shiftLeft_eq, hd] <;> omega

theorem cut_down (neg : Bool) (n D : Nat) : Toward.zero.cut neg n D = n / 2 ^ D := by
  simp only [Toward.cut, Nat.shiftLeft_eq, Nat.one_mul, Bool.toNat_false, Nat.add_zero]
  by_cases h : D ≤ n.log2 + 2
  · rw [Nat.min_eq_left h]
  · have h' : n.log2 + 2 ≤ D := by omega
    rw [Nat.min_eq_right h']
    have l1 : n < 2 ^ (n.log2 + 2) := Nat.lt_trans Nat.lt_log2_self (Nat.pow_lt_pow_right (by omega) (by omega))
    have l2 : 2 ^ (n.log2 + 2) ≤ 2 ^ D := Nat.pow_le_pow_right (by omega) h'
    rw [Nat.div_eq_of_lt l1, Nat.div_eq_of_lt (by omega)]

theorem log2_shift (K E : Nat) (hK : K ≠ 0) : (K * 2 ^ E).log2 = K.log2 + E := by
  have h0 : K * 2 ^ E ≠ 0 := Nat.mul_ne_zero hK (by have := Nat.two_pow_pos E; omega)
  rw [Nat.log2_eq_iff h0]
  have h1 := (Nat.log2_eq_iff (k := K.log2) hK).1 rfl
  constructor
  · rw [Nat.pow_add]; exact Nat.mul_le_mul_right _ h1.1
  · rw [Nat.add_right_comm, Nat.pow_add]; exact Nat.mul_lt_mul_of_pos_right h1.2 (Nat.two_pow_pos E)

theorem log2_le (K : Nat) (hK : K < 4096) : K.log2 ≤ 11 := by
  by_cases h : K = 0
  · subst h; decide
  · have := (Nat.log2_lt h (k := 12)).2 (by simpa using hK); omega

/-- Writing 'K * 2^E * 2^-E' is writing K. -/
theorem nearest_shift (neg : Bool) (K E : Nat) (hK : K < 4096) (hK0 : K ≠ 0) : f64.nearest neg (K * 2 ^ E) (-E) = f64.nearest neg K 0 := by
  have hl := log2_le K hK
  have hs := log2_shift K E hK0
  have h0 : K * 2 ^ E ≠ 0 := Nat.mul_ne_zero hK0 (by have := Nat.two_pow_pos E; omega)
  have lp : f64.leastPlace = -1074 := by decide
  have fb : f64.fractionBits = 52 := rfl
  unfold Format.nearest
  rw [if_neg h0, if_neg hK0]
  dsimp only
  rw [hs, lp, fb]
  have el : max (-(E : Int) + ((K.log2 + E : Nat) : Int) - ((52 : Nat) : Int)) (-1074) = (K.log2 : Int) - 52 := by omega
  have er : max ((0 : Int) + ((K.log2 : Nat) : Int) - ((52 : Nat) : Int)) (-1074) = (K.log2 : Int) - 52 := by omega
  rw [el, er]
  have a1 : ((0 : Int) - ((K.log2 : Int) - 52)).toNat = 52 - K.log2 := by omega
  have a2 : ((K.log2 : Int) - 52 - 0).toNat = 0 := by omega
  rw [a1, a2, cut_zero_place]
  by_cases h : E ≤ 52 - K.log2
  · have b1 : (-(E : Int) - ((K.log2 : Int) - 52)).toNat = 52 - K.log2 - E := by omega
    have b2 : ((K.log2 : Int) - 52 - -(E : Int)).toNat = 0 := by omega
    rw [b1, b2, cut_zero_place]
    have : (K * 2 ^ E) <<< (52 - K.log2 - E) = K <<< (52 - K.log2) := by
      rw [Nat.shiftLeft_eq, Nat.shiftLeft_eq, Nat.mul_assoc, ← Nat.pow_add]
      congr 2; omega
    rw [this]
  · have b1 : (-(E : Int) - ((K.log2 : Int) - 52)).toNat = 0 := by omega
    have b2 : ((K.log2 : Int) - 52 - -(E : Int)).toNat = E - (52 - K.log2) := by omega
    rw [b1, b2, Nat.shiftLeft_zero]
    have e2 : K * 2 ^ E = K * 2 ^ (52 - K.log2) * 2 ^ (E - (52 - K.log2)) := by
      rw [Nat.mul_assoc, ← Nat.pow_add]; congr 2; omega
    rw [cut_exact _ _ _ _ (by rw [hs]; omega) (by rw [e2, Nat.mul_mod_left])]
    rw [e2, Nat.mul_div_cancel _ (Nat.two_pow_pos _), Nat.shiftLeft_eq]

/-- The word stands for the whole number n. -/
def IsInt (b : Nat) (n : Int) : Prop :=
  ∃ s m, ∃ e : Nat, f64.read b = .number s m (-e) ∧ m = n.natAbs * 2 ^ e ∧ (n ≠ 0 → s = decide (n < 0))

def intWordOk (s : Bool) (k : Nat) : Bool :=
  match f64.read (f64.nearest s k 0) with
  | .number s' m i => decide (i ≤ 0) && decide (m = k * 2 ^ (-i).toNat) && s' == s
  | _ => false

theorem words_ok' : ∀ i < 64, ∀ j < 64, intWordOk true (64 * i + j) = true ∧ intWordOk false (64 * i + j) = true := by decide +kernel

theorem words_ok (k : Nat) (hk : k < 4001) : intWordOk true k = true ∧ intWordOk false k = true := by
  have h := words_ok' (k / 64) (by omega) (k % 64) (Nat.mod_lt _ (by omega))
  rwa [Nat.div_add_mod] at h

theorem word_ok (s : Bool) (k : Nat) (hk : k ≤ 4000) : ∃ e : Nat, f64.read (f64.nearest s k 0) = .number s (k * 2 ^ e) (-e) := by
  have h : intWordOk s k = true := by
    have := words_ok k (by omega)
    cases s
    · exact this.2
    · exact this.1
  unfold intWordOk at h
  split at h
  · rename_i s' m i hr
    simp only [Bool.and_eq_true, decide_eq_true_eq, beq_iff_eq] at h
    obtain ⟨⟨h1, h2⟩, h3⟩ := h
    obtain ⟨e, rfl⟩ : ∃ e : Nat, i = -(e : Int) := ⟨(-i).toNat, by omega⟩
    refine ⟨e, ?_⟩
    rw [hr, h2, h3]
    have : (- -(e : Int)).toNat = e := by omega
    rw [this]
  · cases h

theorem isInt_word (s : Bool) (k : Nat) (hk : k ≤ 4000) : IsInt (f64.nearest s k 0) (if s then -(k : Int) else k) := by
  obtain ⟨e, he⟩ := word_ok s k hk
  refine ⟨s, _, e, he, ?_, ?_⟩
  · cases s <;> simp
  · intro h0
    cases s
    · simp only [Bool.false_eq_true, if_false] at h0 ⊢
      exact (decide_eq_false (by omega)).symm
    · simp only [if_true] at h0 ⊢
      exact (decide_eq_true (by omega)).symm

theorem signed_int {n : Int} {s : Bool} {m e j : Nat} (hm : m = n.natAbs * 2 ^ e) (hs : n ≠ 0 → s = decide (n < 0)) : signed s m j = n * 2 ^ (e + j) := by
  have key : ((m <<< j : Nat) : Int) = n.natAbs * 2 ^ (e + j) := by
    rw [Nat.shiftLeft_eq, hm, Nat.mul_assoc, ← Nat.pow_add]; push_cast; rfl
  unfold signed
  by_cases h0 : n = 0
  · subst h0
    simp at hm; subst hm
    simp
  · rw [hs h0, key]
    by_cases hn : n < 0
    · simp only [hn, decide_true, if_true]
      have : (n.natAbs : Int) = -n := by omega
      rw [this, Int.neg_mul, Int.neg_neg]
    · simp only [hn, decide_false, Bool.false_eq_true, if_false]
      have : (n.natAbs : Int) = n := by omega
      rw [this]

theorem two_pos (e : Nat) : (0 : Int) < 2 ^ e := Int.pow_pos (by decide)

theorem order_int {a b : Nat} {x y : Int} (ha : IsInt a x) (hb : IsInt b y) : f64.order a b = some (compare x y) := by
  obtain ⟨s, m, e, ra, rfl, hs⟩ := ha
  obtain ⟨t, n, d, rb, rfl, ht⟩ := hb
  unfold Format.order
  rw [ra, rb]
  simp only [Datum.order]
  rw [signed_int rfl hs, signed_int rfl ht]
  have h1 : e + (-(e : Int) - min (-(e : Int)) (-(d : Int))).toNat = max e d := by omega
  have h2 : d + (-(d : Int) - min (-(e : Int)) (-(d : Int))).toNat = max e d := by omega
  rw [h1, h2]
  congr 1
  have p := two_pos (max e d)
  rcases Int.lt_trichotomy x y with h | h | h
  · have h' : x * 2 ^ max e d < y * 2 ^ max e d := Int.mul_lt_mul_of_pos_right h p
    rw [Int.compare_eq_lt.2 h', Int.compare_eq_lt.2 h]
  · subst h; simp
  · have h' : y * 2 ^ max e d < x * 2 ^ max e d := Int.mul_lt_mul_of_pos_right h p
    rw [Int.compare_eq_gt.2 h', Int.compare_eq_gt.2 h]

theorem toInt_int {b : Nat} {n : Int} (h : IsInt b n) : (f64.read b).toInt .zero = some n := by
  obtain ⟨s, m, e, rb, rfl, hs⟩ := h
  rw [rb]
  simp only [Datum.toInt, Datum.integral]
  have h1 : (-(e : Int)).toNat = 0 := by omega
  have h2 : (-(-(e : Int))).toNat = e := by omega
  rw [h1, h2, Nat.shiftLeft_zero, cut_down, Nat.mul_div_cancel _ (Nat.two_pow_pos e)]
  rw [signed_int (e := 0) (by simp) hs]
  simp

theorem sum_int {a b : Nat} {x y : Int} (ha : IsInt a x) (hb : IsInt b y) (h : (x + y).natAbs ≤ 4000) : ∃ r, f64.add a b = some r ∧ IsInt r (x + y) := by
  obtain ⟨s, m, e, ra, rfl, hs⟩ := ha
  obtain ⟨t, n, d, rb, rfl, ht⟩ := hb
  unfold Format.add
  rw [ra, rb]
  simp only [Datum.sum, Option.map_some, Option.some.injEq, exists_eq_left']
  rw [signed_int rfl hs, signed_int rfl ht]
  have h1 : e + (-(e : Int) - min (-(e : Int)) (-(d : Int))).toNat = max e d := by omega
  have h2 : d + (-(d : Int) - min (-(e : Int)) (-(d : Int))).toNat = max e d := by omega
  have h3 : min (-(e : Int)) (-(d : Int)) = -((max e d : Nat) : Int) := by omega
  rw [h1, h2, h3, ← Int.add_mul]
  generalize max e d = E
  have hna : ((x + y) * 2 ^ E).natAbs = (x + y).natAbs * 2 ^ E := by
    rw [Int.natAbs_mul, Int.natAbs_pow]; rfl
  have p := two_pos E
  by_cases h0 : x + y = 0
  · rw [hna, h0]
    simp only [Int.zero_mul, if_true, Int.natAbs_zero, Nat.zero_mul]
    have : f64.write (.number (s && t) 0 (-(E : Int))) = f64.nearest (s && t) 0 0 := by simp [Format.write, Format.nearest]
    rw [this]
    have := isInt_word (s && t) 0 (by omega)
    simpa using this
  · rw [hna]
    have hne : (x + y) * 2 ^ E ≠ 0 := Int.mul_ne_zero h0 (by omega)
    rw [if_neg hne]
    simp only [Format.write]
    have hd : decide ((x + y) * 2 ^ E < 0) = decide (x + y < 0) := by
      congr 1
      rw [eq_iff_iff]
      constructor
      · intro hlt
        rcases Int.lt_or_le (x + y) 0 with h | h
        · exact h
        · have := Int.mul_nonneg h (Int.le_of_lt p); omega
      · intro hlt; exact Int.mul_neg_of_neg_of_pos hlt p
    rw [hd, nearest_shift _ _ _ (by omega) (by omega)]
    have := isInt_word (decide (x + y < 0)) (x + y).natAbs h
    by_cases hn : x + y < 0
    · simp only [hn, decide_true, if_true] at this ⊢
      rwa [show -(((x + y).natAbs : Nat) : Int) = x + y by omega] at this
    · simp only [hn, decide_false, Bool.false_eq_true, if_false] at this ⊢
      rwa [show (((x + y).natAbs : Nat) : Int) = x + y by omega] at this

theorem diff_int {a b : Nat} {x y : Int} (ha : IsInt a x) (hb : IsInt b y) (h : (x - y).natAbs ≤ 4000) : ∃ r, f64.sub a b = some r ∧ IsInt r (x - y) := by
  obtain ⟨s, m, e, ra, rfl, hs⟩ := ha
  obtain ⟨t, n, d, rb, rfl, ht⟩ := hb
  unfold Format.sub
  rw [ra, rb]
  simp only [Datum.opposite, Datum.sum, Option.map_some, Option.some.injEq, exists_eq_left']
  have ht' : -y ≠ 0 → (!t) = decide (-y < 0) := by
    intro hy
    rw [ht (by omega)]
    rcases Int.lt_trichotomy y 0 with h | h | h
    · have h1 : ¬ -y < 0 := by omega
      rw [decide_eq_true h, decide_eq_false h1]; rfl
    · omega
    · have h1 : -y < 0 := by omega
      have h2 : ¬ y < 0 := by omega
      rw [decide_eq_true h1, decide_eq_false h2]; rfl
  rw [signed_int rfl hs, signed_int (n := -y) (e := d) (by rw [Int.natAbs_neg]) ht']
  have h1 : e + (-(e : Int) - min (-(e : Int)) (-(d : Int))).toNat = max e d := by omega
  have h2 : d + (-(d : Int) - min (-(e : Int)) (-(d : Int))).toNat = max e d := by omega
  have h3 : min (-(e : Int)) (-(d : Int)) = -((max e d : Nat) : Int) := by omega
  rw [h1, h2, h3, ← Int.add_mul, ← Int.sub_eq_add_neg]
  generalize max e d = E
  have hna : ((x - y) * 2 ^ E).natAbs = (x - y).natAbs * 2 ^ E := by
    rw [Int.natAbs_mul, Int.natAbs_pow]; rfl
  have p := two_pos E
  by_cases h0 : x - y = 0
  · rw [hna, h0]
    simp only [Int.zero_mul, if_true, Int.natAbs_zero, Nat.zero_mul]
    have : f64.write (.number (s && !t) 0 (-(E : Int))) = f64.nearest (s && !t) 0 0 := by simp [Format.write, Format.nearest]
    rw [this]
    have := isInt_word (s && !t) 0 (by omega)
    simpa using this
  · rw [hna]
    have hne : (x - y) * 2 ^ E ≠ 0 := Int.mul_ne_zero h0 (by omega)
    rw [if_neg hne]
    simp only [Format.write]
    have hd : decide ((x - y) * 2 ^ E < 0) = decide (x - y < 0) := by
      congr 1
      rw [eq_iff_iff]
      constructor
      · intro hlt
        rcases Int.lt_or_le (x - y) 0 with h | h
        · exact h
        · have := Int.mul_nonneg h (Int.le_of_lt p); omega
      · intro hlt; exact Int.mul_neg_of_neg_of_pos hlt p
    rw [hd, nearest_shift _ _ _ (by omega) (by omega)]
    have := isInt_word (decide (x - y < 0)) (x - y).natAbs h
    by_cases hn : x - y < 0
    · simp only [hn, decide_true, if_true] at this ⊢
      rwa [show -(((x - y).natAbs : Nat) : Int) = x - y by omega] at this
    · simp only [hn, decide_false, Bool.false_eq_true, if_false] at this ⊢
      rwa [show (((x - y).natAbs : Nat) : Int) = x - y by omega] at this

/-- -1000 and 1000, as words. -/
def lo : Nat := 13875379345695965184
def hi : Nat := 4652007308841189376

theorem isInt_lo : IsInt lo (-1000) := ⟨true, 8796093022208000, 43, by decide +kernel, by decide +kernel, fun _ => rfl⟩
theorem isInt_hi : IsInt hi 1000 := ⟨false, 8796093022208000, 43, by decide +kernel, by decide +kernel, fun _ => rfl⟩

def geLo (b : Nat) : Bool := f64.order b lo == some .gt || f64.order b lo == some .eq
def leHi (b : Nat) : Bool := f64.order b hi == some .lt || f64.order b hi == some .eq
def trunc (b : Nat) : Nat := f64.write ((f64.read b).integral .zero)
/-- May a part of a place be that? -/
def wb (b : Nat) : Bool := geLo b && leHi b && f64.order b (trunc b) == some .eq
/-- Cut towards zero. -/
def iv (b : Nat) : Int := ((f64.read b).toInt .zero).getD 0

theorem geLo_int {b : Nat} {n : Int} (h : IsInt b n) : geLo b = decide (-1000 ≤ n) := by
  unfold geLo
  rw [order_int h isInt_lo]
  rcases Int.lt_trichotomy n (-1000) with h | h | h
  · rw [Int.compare_eq_lt.2 h, decide_eq_false (by omega)]; decide
  · subst h; decide
  · rw [Int.compare_eq_gt.2 h, decide_eq_true (by omega)]; decide

theorem leHi_int {b : Nat} {n : Int} (h : IsInt b n) : leHi b = decide (n ≤ 1000) := by
  unfold leHi
  rw [order_int h isInt_hi]
  rcases Int.lt_trichotomy n 1000 with h | h | h
  · rw [Int.compare_eq_lt.2 h, decide_eq_true (by omega)]; decide
  · subst h; decide
  · rw [Int.compare_eq_gt.2 h, decide_eq_false (by omega)]; decide

theorem signed_natAbs (s : Bool) (m j : Nat) : (signed s m j).natAbs = m * 2 ^ j := by
  unfold signed
  rw [Nat.shiftLeft_eq]
  split
  · rw [Int.natAbs_neg]; simp [Int.natAbs_mul, Int.natAbs_pow]
  · simp [Int.natAbs_mul, Int.natAbs_pow]

/-- What is as great as a whole number is that number. -/
theorem int_of_order {a b m : Nat} {sg : Bool} {e : Nat} {y : Int} (ra : f64.read a = .number sg m (-(e : Int))) (hb : IsInt b y) (h : f64.order a b = some .eq) : IsInt a y := by
  obtain ⟨t, n, d, rb, rfl, ht⟩ := hb
  unfold Format.order at h
  rw [ra, rb] at h
  simp only [Datum.order, Option.some.injEq] at h
  rw [signed_int rfl ht] at h
  have h1 : (-(e : Int) - min (-(e : Int)) (-(d : Int))).toNat = max e d - e := by omega
  have h2 : d + (-(d : Int) - min (-(e : Int)) (-(d : Int))).toNat = max e d := by omega
  rw [h1, h2, Int.compare_eq_eq] at h
  have h3 := congrArg Int.natAbs h
  rw [signed_natAbs, Int.natAbs_mul, Int.natAbs_pow] at h3
  have h4 : m = y.natAbs * 2 ^ e := by
    have p : 0 < 2 ^ (max e d - e) := Nat.two_pow_pos _
    refine Nat.eq_of_mul_eq_mul_right p ?_
    rw [Nat.mul_assoc, ← Nat.pow_add, show e + (max e d - e) = max e d by omega]
    exact h3
  refine ⟨sg, m, e, ra, h4, ?_⟩
  intro hy
  unfold signed at h
  have p := two_pos (max e d)
  have pm : 0 < m := by
    rw [h4]; exact Nat.mul_pos (by omega) (Nat.two_pow_pos e)
  have pq : 0 < m <<< (max e d - e) := by
    rw [Nat.shiftLeft_eq]; exact Nat.mul_pos pm (Nat.two_pow_pos _)
  rcases Int.lt_or_le y 0 with hneg | hpos
  · rw [decide_eq_true hneg]
    have := Int.mul_neg_of_neg_of_pos hneg p
    cases sg
    · simp only [Bool.false_eq_true, if_false] at h; omega
    · rfl
  · rw [decide_eq_false (by omega)]
    have := Int.mul_nonneg hpos (Int.le_of_lt p)
    cases sg
    · rfl
    · simp only [if_true] at h; omega

theorem order_swap {a b : Nat} (h : f64.order a b = some .eq) : f64.order b a = some .eq := by
  unfold Format.order at *
  revert h
  generalize f64.read a = x
  generalize f64.read b = y
  intro h
  cases x <;> cases y <;> simp only [Datum.order, Option.some.injEq, reduceCtorEq] at h ⊢
  · rename_i s m i t n j
    rw [Int.compare_eq_eq] at h
    rw [Int.min_comm j i, Int.compare_eq_eq]; exact h.symm
  · split at h <;> cases h
  · split at h <;> cases h
  · rename_i s t
    cases s <;> cases t <;> first | rfl | (revert h; decide)

/-- What lies between -1000 and 1000 is a finite number with its last digit at the point or behind. -/
theorem finite_of_range {b : Nat} (hl : geLo b = true) (hh : leHi b = true) : ∃ s m, ∃ e : Nat, f64.read b = .number s m (-e) ∧ m ≤ 1000 * 2 ^ e := by
  have fin : ∃ s m i, f64.read b = .number s m i := by
    obtain ⟨t, n, d, rb, _, _⟩ := isInt_hi
    obtain ⟨t', n', d', rb', _, _⟩ := isInt_lo
    unfold leHi geLo Format.order at *
    rw [rb] at hh
    rw [rb'] at hl
    cases hr : f64.read b with
    | number s m i => exact ⟨s, m, i, rfl⟩
    | infinity s => rw [hr] at hh hl; cases s <;> simp [Datum.order] at hh hl
    | nan s f => rw [hr] at hh; simp [Datum.order] at hh
  obtain ⟨s, m, i, hr⟩ := fin
  have key : m * 2 ^ (i - min i (-43)).toNat ≤ 8796093022208000 * 2 ^ (-43 - min i (-43)).toNat := by
    have rh : f64.read hi = .number false 8796093022208000 (-43) := by decide +kernel
    have rl : f64.read lo = .number true 8796093022208000 (-43) := by decide +kernel
    have e1 : signed s m (i - min i (-43)).toNat ≤ signed false 8796093022208000 (-43 - min i (-43)).toNat := by
      unfold leHi Format.order at hh
      rw [hr, rh] at hh
      simp only [Datum.order] at hh
      rcases Int.lt_trichotomy (signed s m (i - min i (-43)).toNat) (signed false 8796093022208000 (-43 - min i (-43)).toNat) with h | h | h
      · omega
      · omega
      · rw [Int.compare_eq_gt.2 h] at hh; exact absurd hh (by decide)
    have e2 : signed true 8796093022208000 (-43 - min i (-43)).toNat ≤ signed s m (i - min i (-43)).toNat := by
      unfold geLo Format.order at hl
      rw [hr, rl] at hl
      simp only [Datum.order] at hl
      rcases Int.lt_trichotomy (signed s m (i - min i (-43)).toNat) (signed true 8796093022208000 (-43 - min i (-43)).toNat) with h | h | h
      · rw [Int.compare_eq_lt.2 h] at hl; exact absurd hl (by decide)
      · omega
      · omega
    simp only [signed, Bool.false_eq_true, if_false, if_true] at e1 e2
    have := signed_natAbs s m (i - min i (-43)).toNat
    unfold signed at this
    rw [Nat.shiftLeft_eq 8796093022208000] at e1 e2
    generalize 8796093022208000 * 2 ^ (-43 - min i (-43)).toNat = B at *
    omega
  have i0 : i ≤ 0 := by
    rcases Int.lt_or_le 0 i with hi0 | hi0
    · exfalso
      have hm : 2 ^ 52 ≤ m := by
        unfold Format.read at hr
        have lp : f64.leastPlace = -1074 := by decide
        have bn : f64.binade = 2 ^ 52 := by decide
        rw [lp] at hr
        dsimp only at hr
        split at hr
        · cases hr; omega
        · split at hr
          · cases hr; rw [bn]; exact Nat.le_add_right _ _
          · split at hr <;> cases hr
      have h1 : min i (-43) = -43 := by omega
      rw [h1] at key
      have h2 : (i - -43).toNat = 43 + i.toNat := by omega
      have h3 : ((-43 : Int) - -43).toNat = 0 := rfl
      rw [h2, h3, Nat.pow_zero, Nat.mul_one, Nat.pow_add] at key
      have h4 : 0 < 2 ^ i.toNat := Nat.two_pow_pos _
      have h5 : 2 ^ 52 * (2 ^ 43 * 1) ≤ m * (2 ^ 43 * 2 ^ i.toNat) := Nat.mul_le_mul hm (Nat.mul_le_mul_left _ h4)
      omega
    · exact hi0
  obtain ⟨e, rfl⟩ : ∃ e : Nat, i = -(e : Int) := ⟨(-i).toNat, by omega⟩
  refine ⟨s, m, e, hr, ?_⟩
  by_cases h43 : e ≤ 43
  · have h1 : (-(e : Int) - min (-(e : Int)) (-43)).toNat = 43 - e := by omega
    have h2 : ((-43 : Int) - min (-(e : Int)) (-43)).toNat = 0 := by omega
    rw [h1, h2, Nat.pow_zero, Nat.mul_one] at key
    have p : 0 < 2 ^ (43 - e) := Nat.two_pow_pos _
    refine Nat.le_of_mul_le_mul_right ?_ p
    rw [Nat.mul_assoc, ← Nat.pow_add, show e + (43 - e) = 43 by omega]
    exact key
  · have h1 : (-(e : Int) - min (-(e : Int)) (-43)).toNat = 0 := by omega
    have h2 : ((-43 : Int) - min (-(e : Int)) (-43)).toNat = e - 43 := by omega
    rw [h1, h2, Nat.pow_zero, Nat.mul_one] at key
    have : 1000 * 2 ^ e = 8796093022208000 * 2 ^ (e - 43) := by
      have : (8796093022208000 : Nat) = 1000 * 2 ^ 43 := by decide
      rw [this, Nat.mul_assoc, ← Nat.pow_add]; congr 2; omega
    omega

theorem trunc_int {b : Nat} (hl : geLo b = true) (hh : leHi b = true) : IsInt (trunc b) (iv b) ∧ (iv b).natAbs ≤ 1000 := by
  obtain ⟨s, m, e, hr, hm⟩ := finite_of_range hl hh
  have hk : m / 2 ^ e ≤ 1000 := Nat.div_le_of_le_mul (by rw [Nat.mul_comm]; exact hm)
  have h1 : (-(e : Int)).toNat = 0 := by omega
  have h2 : (-(-(e : Int))).toNat = e := by omega
  unfold trunc iv
  rw [hr]
  simp only [Datum.toInt, Datum.integral, h1, h2, Nat.shiftLeft_zero, cut_down, Option.getD_some, Format.write]
  have := isInt_word s (m / 2 ^ e) (by omega)
  have e1 : (if s = true then -((m / 2 ^ e : Nat) : Int) else ((m / 2 ^ e : Nat) : Int)) = signed s (m / 2 ^ e) 0 := by simp [signed]
  rw [e1] at this
  refine ⟨this, ?_⟩
  rw [signed_natAbs]; simpa using hk

theorem wb_int {b : Nat} (h : wb b = true) : IsInt b (iv b) ∧ (iv b).natAbs ≤ 1000 := by
  unfold wb at h
  simp only [Bool.and_eq_true, beq_iff_eq] at h
  obtain ⟨⟨hl, hh⟩, ho⟩ := h
  obtain ⟨ht, hn⟩ := trunc_int hl hh
  obtain ⟨s, m, e, hr, hm⟩ := finite_of_range hl hh
  exact ⟨int_of_order hr ht ho, hn⟩

theorem iv_int {b : Nat} {n : Int} (h : IsInt b n) : iv b = n := by
  unfold iv; rw [toInt_int h]; rfl

theorem int_wb {b : Nat} {n : Int} (h : IsInt b n) : wb b = decide (-1000 ≤ n ∧ n ≤ 1000) := by
  unfold wb
  rw [geLo_int h, leHi_int h]
  by_cases h1 : -1000 ≤ n
  · by_cases h2 : n ≤ 1000
    · have hl : geLo b = true := by rw [geLo_int h]; simp [h1]
      have hh : leHi b = true := by rw [leHi_int h]; simp [h2]
      have ht := (trunc_int hl hh).1
      rw [iv_int h] at ht
      rw [order_int h ht]; simp [h1, h2]
    · simp [h2]
  · simp [h1]

/-- 'float64(int(b))' is as great as b just if b is whole. -/
theorem back_wb {b r : Nat} (hl : geLo b = true) (hh : leHi b = true) (hr : IsInt r (iv b)) : (f64.order r b == some .eq) = wb b := by
  cases hw : wb b with
  | true =>
    have := wb_int hw
    rw [order_int hr this.1]; simp
  | false =>
    by_cases h : f64.order r b = some .eq
    · obtain ⟨s, m, e, hrd, hm⟩ := finite_of_range hl hh
      have hi := int_of_order hrd hr (order_swap h)
      have hn := (trunc_int hl hh).2
      rw [int_wb hi] at hw
      exact absurd hw (by simp; omega)
    · simpa using h

theorem toInt_range {b : Nat} (hl : geLo b = true) (hh : leHi b = true) : floatToIntVal .f64 b .i64 = some (iv b) := by
  obtain ⟨s, m, e, hr, hm⟩ := finite_of_range hl hh
  have hn := (trunc_int hl hh).2
  unfold floatToIntVal
  have hd : FloatKind.f64.decode b = f64.read b := rfl
  have h0 : (f64.read b).toInt .zero = some (iv b) := by
    unfold iv; rw [hr]; rfl
  rw [hd, h0]
  have h1 : IntKind.i64.min ≤ iv b ∧ iv b ≤ IntKind.i64.max := by
    have : IntKind.i64.min = -9223372036854775808 := by decide
    have : IntKind.i64.max = 9223372036854775807 := by decide
    omega
  simp only [h1, and_self, if_true]

theorem toIntVal_int {b : Nat} {n : Int} (h : IsInt b n) (hn : n.natAbs ≤ 4000) : floatToIntVal .f64 b .i64 = some n := by
  unfold floatToIntVal
  have hd : FloatKind.f64.decode b = f64.read b := rfl
  rw [hd, toInt_int h]
  have h1 : IntKind.i64.min ≤ n ∧ n ≤ IntKind.i64.max := by
    have : IntKind.i64.min = -9223372036854775808 := by decide
    have : IntKind.i64.max = 9223372036854775807 := by decide
    omega
  simp only [h1, and_self, if_true]

theorem ofInt_int {n : Int} (hn : n.natAbs ≤ 4000) : IsInt (floatOfInt .f64 n) n := by
  have := isInt_word (decide (n < 0)) n.natAbs hn
  have e : floatOfInt .f64 n = f64.nearest (decide (n < 0)) n.natAbs 0 := rfl
  rw [e]
  by_cases h : n < 0
  · rw [decide_eq_true h] at this ⊢
    rw [if_pos rfl, show -((n.natAbs : Nat) : Int) = n by omega] at this
    exact this
  · rw [decide_eq_false h] at this ⊢
    rw [if_neg (by decide), show ((n.natAbs : Nat) : Int) = n by omega] at this
    exact this

end Fl
end Go.Proofs.Ytechmejmlelmmaa
