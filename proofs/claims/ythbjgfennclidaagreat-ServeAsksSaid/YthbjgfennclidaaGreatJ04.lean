/- Joined: ItemQ, Ord, Fl, RowI, RefList. -/
import Derived.Test.YthbjgfennclidaaGreatJ01
import Derived.Laws.ComplexArith
import Derived.Deep.CutBlock
import Derived.Deep.DeepCutAuto
/- An item out of plain data: the walk. -/
namespace Go.Proofs.YthbjgfennclidaaGreat
set_option linter.unusedVariables false
set_option linter.unusedSimpArgs false
set_option maxRecDepth 100000
open Go.RowKit
abbrev itemV (id : ByteArray) (r c st : Int) (kd : ByteArray) (n : Int) (x y : Nat) (d : Bool) : Value :=
  .agg #[.string id, .int .i64 r, .int .i64 c, .int .i64 st, .string kd, .int .i64 n, .complex .f64 x y, .bool d]
abbrev rowV (id : ByteArray) (r c st : Int) (kd : ByteArray) (n : Int) (x y : Nat) (d : Bool) : Value :=
  .agg #[.string id, .int .i64 r, .int .i64 c, .int .i64 st, .string kd, .int .i64 n, .float .f64 x, .float .f64 y, .bool d]
set_option maxHeartbeats 400000 in
theorem item_calls (id : ByteArray) (r c st : Int) (kd : ByteArray) (n : Int) (x y : Nat) (d : Bool) (w : World) :
    Calls Tryz.prog 91 #[rowV id r c st kd n x y d] w fun e w' => e = .returned (itemV id r c st kd n x y d) ∧ Below w.heap.size w w' := by
  go_enter Tryz.func91, Tryz.ntmps91
  go_wp2
  exact bodyPost_ret (v := itemV id r c st kd n x y d) (by simp [results, Tryz.results91, go_sem]) rfl ⟨rfl, ((Below.refl _ _).alloc (Nat.le_refl _) _).alloc (by simp) _⟩
end Go.Proofs.YthbjgfennclidaaGreat
/- The order of texts: plain mathematics. No walk. -/
namespace Go.Proofs.YthbjgfennclidaaGreat
set_option linter.unusedVariables false
set_option linter.unusedSimpArgs false
set_option maxRecDepth 100000
open Go.RowKit
theorem less_irr : ∀ (x : List UInt8), Op.bytesLess x x = false
  | [] => by simp [Op.bytesLess]
  | a :: x => by simp [Op.bytesLess, less_irr x]
theorem less_trans : ∀ {x y z : List UInt8}, Op.bytesLess x y = true → Op.bytesLess y z = true → Op.bytesLess x z = true
  | [], [], _, h, _ => by simp [Op.bytesLess] at h
  | _ :: _, [], _, h, _ => by simp [Op.bytesLess] at h
  | _, _ :: _, [], _, h => by simp [Op.bytesLess] at h
  | [], _ :: _, _ :: _, _, _ => by simp [Op.bytesLess]
  | a :: x, b :: y, c :: z, h1, h2 => by
    simp only [Op.bytesLess, Bool.or_eq_true, Bool.and_eq_true, decide_eq_true_eq, beq_iff_eq] at *
    rcases h1 with h1 | ⟨h1, h1'⟩ <;> rcases h2 with h2 | ⟨h2, h2'⟩
    · exact .inl (UInt8.lt_trans h1 h2)
    · subst h2; exact .inl h1
    · subst h1; exact .inl h2
    · subst h1 h2; exact .inr ⟨rfl, less_trans h1' h2'⟩
theorem less_tri : ∀ (x y : List UInt8), Op.bytesLess x y = true ∨ x = y ∨ Op.bytesLess y x = true
  | [], [] => .inr (.inl rfl)
  | [], _ :: _ => .inl (by simp [Op.bytesLess])
  | _ :: _, [] => .inr (.inr (by simp [Op.bytesLess]))
  | a :: x, b :: y => by
    simp only [Op.bytesLess, Bool.or_eq_true, Bool.and_eq_true, decide_eq_true_eq, beq_iff_eq, List.cons.injEq]
    have tri : a < b ∨ a = b ∨ b < a := by
      rcases Nat.lt_trichotomy a.toNat b.toNat with h | h | h
      · exact .inl (UInt8.lt_iff_toNat_lt.2 h)
      · exact .inr (.inl (UInt8.toNat_inj.1 h))
      · exact .inr (.inr (UInt8.lt_iff_toNat_lt.2 h))
    rcases tri with h | h | h
    · exact .inl (.inl h)
    · subst h
      rcases less_tri x y with h | h | h
      · exact .inl (.inr ⟨rfl, h⟩)
      · exact .inr (.inl ⟨rfl, h⟩)
      · exact .inr (.inr (.inr ⟨rfl, h⟩))
    · exact .inr (.inr (.inl h))
theorem tl_inj {a b : ByteArray} (h : a.toList = b.toList) : a = b := by
  rw [ByteArray.toList_eq, ByteArray.toList_eq] at h
  cases a; cases b; simp at h; subst h; rfl
def lsB (a b : ByteArray) : Bool := Op.bytesLess a.toList b.toList
def gtB (a b : ByteArray) : Bool := !(Op.bytesLess a.toList b.toList || a.toList == b.toList)
def leB (a b : ByteArray) : Bool := Op.bytesLess a.toList b.toList || a.toList == b.toList
theorem ls_irr (a : ByteArray) : lsB a a = false := less_irr _
theorem ls_trans {a b c : ByteArray} (h1 : lsB a b = true) (h2 : lsB b c = true) : lsB a c = true := less_trans h1 h2
theorem ls_tri (a b : ByteArray) : lsB a b = true ∨ a = b ∨ lsB b a = true := by
  rcases less_tri a.toList b.toList with h | h | h
  · exact .inl h
  · exact .inr (.inl (tl_inj h))
  · exact .inr (.inr h)
theorem ls_asym {a b : ByteArray} (h : lsB a b = true) : lsB b a = false := by
  cases e : lsB b a with
  | false => rfl
  | true => have := ls_trans h e; rw [ls_irr] at this; cases this
theorem ls_ne {a b : ByteArray} (h : lsB a b = true) : a ≠ b := by
  intro e; subst e; rw [ls_irr] at h; cases h
theorem tl_eq {a b : ByteArray} : (a.toList == b.toList) = true ↔ a = b := by
  rw [beq_iff_eq]; exact ⟨tl_inj, fun e => by rw [e]⟩
theorem tl_ne {a b : ByteArray} : (a.toList == b.toList) = false ↔ a ≠ b := by
  rw [beq_eq_false_iff_ne]; exact ⟨fun h e => h (by rw [e]), fun h e => h (tl_inj e)⟩
theorem le_iff {a b : ByteArray} : leB a b = true ↔ lsB a b = true ∨ a = b := by
  unfold leB lsB
  rw [Bool.or_eq_true, tl_eq]
theorem le_not {a b : ByteArray} (h : leB a b = false) : lsB b a = true := by
  rcases ls_tri a b with h1 | h1 | h1
  · have : leB a b = true := le_iff.2 (.inl h1)
    rw [this] at h; cases h
  · have : leB a b = true := le_iff.2 (.inr h1)
    rw [this] at h; cases h
  · exact h1
theorem gt_eq (a b : ByteArray) : gtB a b = lsB b a := by
  have : gtB a b = !leB a b := rfl
  rw [this]
  cases h : leB a b with
  | false => rw [le_not h]; rfl
  | true =>
    rcases le_iff.1 h with h1 | h1
    · rw [ls_asym h1]; rfl
    · subst h1; rw [ls_irr]; rfl
/-! ### Lists of texts that rise -/
def Rise (l : List ByteArray) : Prop := l.Pairwise fun a b => lsB a b = true
theorem rise_cons {a : ByteArray} {l : List ByteArray} : Rise (a :: l) ↔ (∀ x ∈ l, lsB a x = true) ∧ Rise l := List.pairwise_cons
theorem rise_filter {p : ByteArray → Bool} {l : List ByteArray} (h : Rise l) : Rise (l.filter p) := List.Pairwise.filter p h
end Go.Proofs.YthbjgfennclidaaGreat
/- Plain facts on the model's float64 words: which words are whole numbers, what their sum, difference, cut towards zero and order are. Conditions: the numbers are at most 4000 in size. -/
namespace Go.Proofs.YthbjgfennclidaaGreat
set_option linter.unusedVariables false
set_option linter.unusedSimpArgs false
set_option maxRecDepth 100000
namespace Fl
open Ieee
def f64 : Format := Ieee.double
theorem cut_zero_place (way : Toward) (neg : Bool) (n : Nat) : way.cut neg n 0 = n := by
  cases way <;> simp [Toward.cut, Nat.mod_one] <;> omega
theorem cut_exact (way : Toward) (neg : Bool) (n D : Nat) (h : D ≤ n.log2 + 2) (hd : n % 2 ^ D = 0) : way.cut neg n D = n / 2 ^ D := by
  have e : min D (n.log2 + 2) = D := by omega
  have p : 0 < 2 ^ D := Nat.two_pow_pos D
  cases way <;> simp [Toward.cut, e, Nat.shiftLeft_eq, hd] <;> omega
theorem cut_down (neg : Bool) (n D : Nat) : Toward.zero.cut neg n D = n / 2 ^ D := by
  simp only [Toward.cut, Nat.shiftLeft_eq, Nat.one_mul, Bool.toNat_false, Nat.add_zero]
  by_cases h : D ≤ n.log2 + 2
  · rw [Nat.min_eq_left h]
  · have h' : n.log2 + 2 ≤ D := by omega
    rw [Nat.min_eq_right h']
    have l1 : n < 2 ^ (n.log2 + 2) := Nat.lt_trans Nat.lt_log2_self (Nat.pow_lt_pow_right (by omega) (by omega))
    have l2 : 2 ^ (n.log2 + 2) ≤ 2 ^ D := Nat.pow_le_pow_right (by omega) h'
    rw [Nat.div_eq_of_lt l1, Nat.div_eq_of_lt (by omega)]
theorem log2_shift (K E : Nat) (hK : K ≠ 0) : (K * 2 ^ E).log2 = K.log2 + E := by
  have h0 : K * 2 ^ E ≠ 0 := Nat.mul_ne_zero hK (by have := Nat.two_pow_pos E; omega)
  rw [Nat.log2_eq_iff h0]
  have h1 := (Nat.log2_eq_iff (k := K.log2) hK).1 rfl
  constructor
  · rw [Nat.pow_add]; exact Nat.mul_le_mul_right _ h1.1
  · rw [Nat.add_right_comm, Nat.pow_add]; exact Nat.mul_lt_mul_of_pos_right h1.2 (Nat.two_pow_pos E)
theorem log2_le (K : Nat) (hK : K < 4096) : K.log2 ≤ 11 := by
  by_cases h : K = 0
  · subst h; decide
  · have := (Nat.log2_lt h (k := 12)).2 (by simpa using hK); omega
theorem nearest_shift (neg : Bool) (K E : Nat) (hK : K < 4096) (hK0 : K ≠ 0) : f64.nearest neg (K * 2 ^ E) (-E) = f64.nearest neg K 0 := by
  have hl := log2_le K hK
  have hs := log2_shift K E hK0
  have h0 : K * 2 ^ E ≠ 0 := Nat.mul_ne_zero hK0 (by have := Nat.two_pow_pos E; omega)
  have lp : f64.leastPlace = -1074 := by decide
  have fb : f64.fractionBits = 52 := rfl
  unfold Format.nearest
  rw [if_neg h0, if_neg hK0]
  dsimp only
  rw [hs, lp, fb]
  have el : max (-(E : Int) + ((K.log2 + E : Nat) : Int) - ((52 : Nat) : Int)) (-1074) = (K.log2 : Int) - 52 := by omega
  have er : max ((0 : Int) + ((K.log2 : Nat) : Int) - ((52 : Nat) : Int)) (-1074) = (K.log2 : Int) - 52 := by omega
  rw [el, er]
  have a1 : ((0 : Int) - ((K.log2 : Int) - 52)).toNat = 52 - K.log2 := by omega
  have a2 : ((K.log2 : Int) - 52 - 0).toNat = 0 := by omega
  rw [a1, a2, cut_zero_place]
  by_cases h : E ≤ 52 - K.log2
  · have b1 : (-(E : Int) - ((K.log2 : Int) - 52)).toNat = 52 - K.log2 - E := by omega
    have b2 : ((K.log2 : Int) - 52 - -(E : Int)).toNat = 0 := by omega
    rw [b1, b2, cut_zero_place]
    have : (K * 2 ^ E) <<< (52 - K.log2 - E) = K <<< (52 - K.log2) := by
      rw [Nat.shiftLeft_eq, Nat.shiftLeft_eq, Nat.mul_assoc, ← Nat.pow_add]
      congr 2; omega
    rw [this]
  · have b1 : (-(E : Int) - ((K.log2 : Int) - 52)).toNat = 0 := by omega
    have b2 : ((K.log2 : Int) - 52 - -(E : Int)).toNat = E - (52 - K.log2) := by omega
    rw [b1, b2, Nat.shiftLeft_zero]
    have e2 : K * 2 ^ E = K * 2 ^ (52 - K.log2) * 2 ^ (E - (52 - K.log2)) := by
      rw [Nat.mul_assoc, ← Nat.pow_add]; congr 2; omega
    rw [cut_exact _ _ _ _ (by rw [hs]; omega) (by rw [e2, Nat.mul_mod_left])]
    rw [e2, Nat.mul_div_cancel _ (Nat.two_pow_pos _), Nat.shiftLeft_eq]
def IsInt (b : Nat) (n : Int) : Prop :=
  ∃ s m, ∃ e : Nat, f64.read b = .number s m (-e) ∧ m = n.natAbs * 2 ^ e ∧ (n ≠ 0 → s = decide (n < 0))
def intWordOk (s : Bool) (k : Nat) : Bool :=
  match f64.read (f64.nearest s k 0) with
  | .number s' m i => decide (i ≤ 0) && decide (m = k * 2 ^ (-i).toNat) && s' == s
  | _ => false
theorem words_ok' : ∀ i < 64, ∀ j < 64, intWordOk true (64 * i + j) = true ∧ intWordOk false (64 * i + j) = true := by decide +kernel
theorem words_ok (k : Nat) (hk : k < 4001) : intWordOk true k = true ∧ intWordOk false k = true := by
  have h := words_ok' (k / 64) (by omega) (k % 64) (Nat.mod_lt _ (by omega))
  rwa [Nat.div_add_mod] at h
theorem word_ok (s : Bool) (k : Nat) (hk : k ≤ 4000) : ∃ e : Nat, f64.read (f64.nearest s k 0) = .number s (k * 2 ^ e) (-e) := by
  have h : intWordOk s k = true := by
    have := words_ok k (by omega)
    cases s
    · exact this.2
    · exact this.1
  unfold intWordOk at h
  split at h
  · rename_i s' m i hr
    simp only [Bool.and_eq_true, decide_eq_true_eq, beq_iff_eq] at h
    obtain ⟨⟨h1, h2⟩, h3⟩ := h
    obtain ⟨e, rfl⟩ : ∃ e : Nat, i = -(e : Int) := ⟨(-i).toNat, by omega⟩
    refine ⟨e, ?_⟩
    rw [hr, h2, h3]
    have : (- -(e : Int)).toNat = e := by omega
    rw [this]
  · cases h
theorem isInt_word (s : Bool) (k : Nat) (hk : k ≤ 4000) : IsInt (f64.nearest s k 0) (if s then -(k : Int) else k) := by
  obtain ⟨e, he⟩ := word_ok s k hk
  refine ⟨s, _, e, he, ?_, ?_⟩
  · cases s <;> simp
  · intro h0
    cases s
    · simp only [Bool.false_eq_true, if_false] at h0 ⊢
      exact (decide_eq_false (by omega)).symm
    · simp only [if_true] at h0 ⊢
      exact (decide_eq_true (by omega)).symm
theorem signed_int {n : Int} {s : Bool} {m e j : Nat} (hm : m = n.natAbs * 2 ^ e) (hs : n ≠ 0 → s = decide (n < 0)) : signed s m j = n * 2 ^ (e + j) := by
  have key : ((m <<< j : Nat) : Int) = n.natAbs * 2 ^ (e + j) := by
    rw [Nat.shiftLeft_eq, hm, Nat.mul_assoc, ← Nat.pow_add]; push_cast; rfl
  unfold signed
  by_cases h0 : n = 0
  · subst h0
    simp at hm; subst hm
    simp
  · rw [hs h0, key]
    by_cases hn : n < 0
    · simp only [hn, decide_true, if_true]
      have : (n.natAbs : Int) = -n := by omega
      rw [this, Int.neg_mul, Int.neg_neg]
    · simp only [hn, decide_false, Bool.false_eq_true, if_false]
      have : (n.natAbs : Int) = n := by omega
      rw [this]
theorem two_pos (e : Nat) : (0 : Int) < 2 ^ e := Int.pow_pos (by decide)
theorem order_int {a b : Nat} {x y : Int} (ha : IsInt a x) (hb : IsInt b y) : f64.order a b = some (compare x y) := by
  obtain ⟨s, m, e, ra, rfl, hs⟩ := ha
  obtain ⟨t, n, d, rb, rfl, ht⟩ := hb
  unfold Format.order
  rw [ra, rb]
  simp only [Datum.order]
  rw [signed_int rfl hs, signed_int rfl ht]
  have h1 : e + (-(e : Int) - min (-(e : Int)) (-(d : Int))).toNat = max e d := by omega
  have h2 : d + (-(d : Int) - min (-(e : Int)) (-(d : Int))).toNat = max e d := by omega
  rw [h1, h2]
  congr 1
  have p := two_pos (max e d)
  rcases Int.lt_trichotomy x y with h | h | h
  · have h' : x * 2 ^ max e d < y * 2 ^ max e d := Int.mul_lt_mul_of_pos_right h p
    rw [Int.compare_eq_lt.2 h', Int.compare_eq_lt.2 h]
  · subst h; simp
  · have h' : y * 2 ^ max e d < x * 2 ^ max e d := Int.mul_lt_mul_of_pos_right h p
    rw [Int.compare_eq_gt.2 h', Int.compare_eq_gt.2 h]
theorem toInt_int {b : Nat} {n : Int} (h : IsInt b n) : (f64.read b).toInt .zero = some n := by
  obtain ⟨s, m, e, rb, rfl, hs⟩ := h
  rw [rb]
  simp only [Datum.toInt, Datum.integral]
  have h1 : (-(e : Int)).toNat = 0 := by omega
  have h2 : (-(-(e : Int))).toNat = e := by omega
  rw [h1, h2, Nat.shiftLeft_zero, cut_down, Nat.mul_div_cancel _ (Nat.two_pow_pos e)]
  rw [signed_int (e := 0) (by simp) hs]
  simp
theorem diff_int {a b : Nat} {x y : Int} (ha : IsInt a x) (hb : IsInt b y) (h : (x - y).natAbs ≤ 4000) : ∃ r, f64.sub a b = some r ∧ IsInt r (x - y) := by
  obtain ⟨s, m, e, ra, rfl, hs⟩ := ha
  obtain ⟨t, n, d, rb, rfl, ht⟩ := hb
  unfold Format.sub
  rw [ra, rb]
  simp only [Datum.opposite, Datum.sum, Option.map_some, Option.some.injEq, exists_eq_left']
  have ht' : -y ≠ 0 → (!t) = decide (-y < 0) := by
    intro hy
    rw [ht (by omega)]
    rcases Int.lt_trichotomy y 0 with h | h | h
    · have h1 : ¬ -y < 0 := by omega
      rw [decide_eq_true h, decide_eq_false h1]; rfl
    · omega
    · have h1 : -y < 0 := by omega
      have h2 : ¬ y < 0 := by omega
      rw [decide_eq_true h1, decide_eq_false h2]; rfl
  rw [signed_int rfl hs, signed_int (n := -y) (e := d) (by rw [Int.natAbs_neg]) ht']
  have h1 : e + (-(e : Int) - min (-(e : Int)) (-(d : Int))).toNat = max e d := by omega
  have h2 : d + (-(d : Int) - min (-(e : Int)) (-(d : Int))).toNat = max e d := by omega
  have h3 : min (-(e : Int)) (-(d : Int)) = -((max e d : Nat) : Int) := by omega
  rw [h1, h2, h3, ← Int.add_mul, ← Int.sub_eq_add_neg]
  generalize max e d = E
  have hna : ((x - y) * 2 ^ E).natAbs = (x - y).natAbs * 2 ^ E := by
    rw [Int.natAbs_mul, Int.natAbs_pow]; rfl
  have p := two_pos E
  by_cases h0 : x - y = 0
  · rw [hna, h0]
    simp only [Int.zero_mul, if_true, Int.natAbs_zero, Nat.zero_mul]
    have : f64.write (.number (s && !t) 0 (-(E : Int))) = f64.nearest (s && !t) 0 0 := by simp [Format.write, Format.nearest]
    rw [this]
    have := isInt_word (s && !t) 0 (by omega)
    simpa using this
  · rw [hna]
    have hne : (x - y) * 2 ^ E ≠ 0 := Int.mul_ne_zero h0 (by omega)
    rw [if_neg hne]
    simp only [Format.write]
    have hd : decide ((x - y) * 2 ^ E < 0) = decide (x - y < 0) := by
      congr 1
      rw [eq_iff_iff]
      constructor
      · intro hlt
        rcases Int.lt_or_le (x - y) 0 with h | h
        · exact h
        · have := Int.mul_nonneg h (Int.le_of_lt p); omega
      · intro hlt; exact Int.mul_neg_of_neg_of_pos hlt p
    rw [hd, nearest_shift _ _ _ (by omega) (by omega)]
    have := isInt_word (decide (x - y < 0)) (x - y).natAbs h
    by_cases hn : x - y < 0
    · simp only [hn, decide_true, if_true] at this ⊢
      rwa [show -(((x - y).natAbs : Nat) : Int) = x - y by omega] at this
    · simp only [hn, decide_false, Bool.false_eq_true, if_false] at this ⊢
      rwa [show (((x - y).natAbs : Nat) : Int) = x - y by omega] at this
def lo : Nat := 13875379345695965184
def hi : Nat := 4652007308841189376
theorem isInt_lo : IsInt lo (-1000) := ⟨true, 8796093022208000, 43, by decide +kernel, by decide +kernel, fun _ => rfl⟩
theorem isInt_hi : IsInt hi 1000 := ⟨false, 8796093022208000, 43, by decide +kernel, by decide +kernel, fun _ => rfl⟩
def geLo (b : Nat) : Bool := f64.order b lo == some .gt || f64.order b lo == some .eq
def leHi (b : Nat) : Bool := f64.order b hi == some .lt || f64.order b hi == some .eq
def trunc (b : Nat) : Nat := f64.write ((f64.read b).integral .zero)
def wb (b : Nat) : Bool := geLo b && leHi b && f64.order b (trunc b) == some .eq
def iv (b : Nat) : Int := ((f64.read b).toInt .zero).getD 0
theorem geLo_int {b : Nat} {n : Int} (h : IsInt b n) : geLo b = decide (-1000 ≤ n) := by
  unfold geLo
  rw [order_int h isInt_lo]
  rcases Int.lt_trichotomy n (-1000) with h | h | h
  · rw [Int.compare_eq_lt.2 h, decide_eq_false (by omega)]; decide
  · subst h; decide
  · rw [Int.compare_eq_gt.2 h, decide_eq_true (by omega)]; decide
theorem leHi_int {b : Nat} {n : Int} (h : IsInt b n) : leHi b = decide (n ≤ 1000) := by
  unfold leHi
  rw [order_int h isInt_hi]
  rcases Int.lt_trichotomy n 1000 with h | h | h
  · rw [Int.compare_eq_lt.2 h, decide_eq_true (by omega)]; decide
  · subst h; decide
  · rw [Int.compare_eq_gt.2 h, decide_eq_false (by omega)]; decide
theorem signed_natAbs (s : Bool) (m j : Nat) : (signed s m j).natAbs = m * 2 ^ j := by
  unfold signed
  rw [Nat.shiftLeft_eq]
  split
  · rw [Int.natAbs_neg]; simp [Int.natAbs_mul, Int.natAbs_pow]
  · simp [Int.natAbs_mul, Int.natAbs_pow]
theorem int_of_order {a b m : Nat} {sg : Bool} {e : Nat} {y : Int} (ra : f64.read a = .number sg m (-(e : Int))) (hb : IsInt b y) (h : f64.order a b = some .eq) : IsInt a y := by
  obtain ⟨t, n, d, rb, rfl, ht⟩ := hb
  unfold Format.order at h
  rw [ra, rb] at h
  simp only [Datum.order, Option.some.injEq] at h
  rw [signed_int rfl ht] at h
  have h1 : (-(e : Int) - min (-(e : Int)) (-(d : Int))).toNat = max e d - e := by omega
  have h2 : d + (-(d : Int) - min (-(e : Int)) (-(d : Int))).toNat = max e d := by omega
  rw [h1, h2, Int.compare_eq_eq] at h
  have h3 := congrArg Int.natAbs h
  rw [signed_natAbs, Int.natAbs_mul, Int.natAbs_pow] at h3
  have h4 : m = y.natAbs * 2 ^ e := by
    have p : 0 < 2 ^ (max e d - e) := Nat.two_pow_pos _
    refine Nat.eq_of_mul_eq_mul_right p ?_
    rw [Nat.mul_assoc, ← Nat.pow_add, show e + (max e d - e) = max e d by omega]
    exact h3
  refine ⟨sg, m, e, ra, h4, ?_⟩
  intro hy
  unfold signed at h
  have p := two_pos (max e d)
  have pm : 0 < m := by
    rw [h4]; exact Nat.mul_pos (by omega) (Nat.two_pow_pos e)
  have pq : 0 < m <<< (max e d - e) := by
    rw [Nat.shiftLeft_eq]; exact Nat.mul_pos pm (Nat.two_pow_pos _)
  rcases Int.lt_or_le y 0 with hneg | hpos
  · rw [decide_eq_true hneg]
    have := Int.mul_neg_of_neg_of_pos hneg p
    cases sg
    · simp only [Bool.false_eq_true, if_false] at h; omega
    · rfl
  · rw [decide_eq_false (by omega)]
    have := Int.mul_nonneg hpos (Int.le_of_lt p)
    cases sg
    · rfl
    · simp only [if_true] at h; omega
theorem order_swap {a b : Nat} (h : f64.order a b = some .eq) : f64.order b a = some .eq := by
  unfold Format.order at *
  revert h
  generalize f64.read a = x
  generalize f64.read b = y
  intro h
  cases x <;> cases y <;> simp only [Datum.order, Option.some.injEq, reduceCtorEq] at h ⊢
  · rename_i s m i t n j
    rw [Int.compare_eq_eq] at h
    rw [Int.min_comm j i, Int.compare_eq_eq]; exact h.symm
  · split at h <;> cases h
  · split at h <;> cases h
  · rename_i s t
    cases s <;> cases t <;> first | rfl | (revert h; decide)
theorem finite_of_range {b : Nat} (hl : geLo b = true) (hh : leHi b = true) : ∃ s m, ∃ e : Nat, f64.read b = .number s m (-e) ∧ m ≤ 1000 * 2 ^ e := by
  have fin : ∃ s m i, f64.read b = .number s m i := by
    obtain ⟨t, n, d, rb, _, _⟩ := isInt_hi
    obtain ⟨t', n', d', rb', _, _⟩ := isInt_lo
    unfold leHi geLo Format.order at *
    rw [rb] at hh
    rw [rb'] at hl
    cases hr : f64.read b with
    | number s m i => exact ⟨s, m, i, rfl⟩
    | infinity s => rw [hr] at hh hl; cases s <;> simp [Datum.order] at hh hl
    | nan s f => rw [hr] at hh; simp [Datum.order] at hh
  obtain ⟨s, m, i, hr⟩ := fin
  have key : m * 2 ^ (i - min i (-43)).toNat ≤ 8796093022208000 * 2 ^ (-43 - min i (-43)).toNat := by
    have rh : f64.read hi = .number false 8796093022208000 (-43) := by decide +kernel
    have rl : f64.read lo = .number true 8796093022208000 (-43) := by decide +kernel
    have e1 : signed s m (i - min i (-43)).toNat ≤ signed false 8796093022208000 (-43 - min i (-43)).toNat := by
      unfold leHi Format.order at hh
      rw [hr, rh] at hh
      simp only [Datum.order] at hh
      rcases Int.lt_trichotomy (signed s m (i - min i (-43)).toNat) (signed false 8796093022208000 (-43 - min i (-43)).toNat) with h | h | h
      · omega
      · omega
      · rw [Int.compare_eq_gt.2 h] at hh; exact absurd hh (by decide)
    have e2 : signed true 8796093022208000 (-43 - min i (-43)).toNat ≤ signed s m (i - min i (-43)).toNat := by
      unfold geLo Format.order at hl
      rw [hr, rl] at hl
      simp only [Datum.order] at hl
      rcases Int.lt_trichotomy (signed s m (i - min i (-43)).toNat) (signed true 8796093022208000 (-43 - min i (-43)).toNat) with h | h | h
      · rw [Int.compare_eq_lt.2 h] at hl; exact absurd hl (by decide)
      · omega
      · omega
    simp only [signed, Bool.false_eq_true, if_false, if_true] at e1 e2
    have := signed_natAbs s m (i - min i (-43)).toNat
    unfold signed at this
    rw [Nat.shiftLeft_eq 8796093022208000] at e1 e2
    generalize 8796093022208000 * 2 ^ (-43 - min i (-43)).toNat = B at *
    omega
  have i0 : i ≤ 0 := by
    rcases Int.lt_or_le 0 i with hi0 | hi0
    · exfalso
      have hm : 2 ^ 52 ≤ m := by
        unfold Format.read at hr
        have lp : f64.leastPlace = -1074 := by decide
        have bn : f64.binade = 2 ^ 52 := by decide
        rw [lp] at hr
        dsimp only at hr
        split at hr
        · cases hr; omega
        · split at hr
          · cases hr; rw [bn]; exact Nat.le_add_right _ _
          · split at hr <;> cases hr
      have h1 : min i (-43) = -43 := by omega
      rw [h1] at key
      have h2 : (i - -43).toNat = 43 + i.toNat := by omega
      have h3 : ((-43 : Int) - -43).toNat = 0 := rfl
      rw [h2, h3, Nat.pow_zero, Nat.mul_one, Nat.pow_add] at key
      have h4 : 0 < 2 ^ i.toNat := Nat.two_pow_pos _
      have h5 : 2 ^ 52 * (2 ^ 43 * 1) ≤ m * (2 ^ 43 * 2 ^ i.toNat) := Nat.mul_le_mul hm (Nat.mul_le_mul_left _ h4)
      omega
    · exact hi0
  obtain ⟨e, rfl⟩ : ∃ e : Nat, i = -(e : Int) := ⟨(-i).toNat, by omega⟩
  refine ⟨s, m, e, hr, ?_⟩
  by_cases h43 : e ≤ 43
  · have h1 : (-(e : Int) - min (-(e : Int)) (-43)).toNat = 43 - e := by omega
    have h2 : ((-43 : Int) - min (-(e : Int)) (-43)).toNat = 0 := by omega
    rw [h1, h2, Nat.pow_zero, Nat.mul_one] at key
    have p : 0 < 2 ^ (43 - e) := Nat.two_pow_pos _
    refine Nat.le_of_mul_le_mul_right ?_ p
    rw [Nat.mul_assoc, ← Nat.pow_add, show e + (43 - e) = 43 by omega]
    exact key
  · have h1 : (-(e : Int) - min (-(e : Int)) (-43)).toNat = 0 := by omega
    have h2 : ((-43 : Int) - min (-(e : Int)) (-43)).toNat = e - 43 := by omega
    rw [h1, h2, Nat.pow_zero, Nat.mul_one] at key
    have : 1000 * 2 ^ e = 8796093022208000 * 2 ^ (e - 43) := by
      have : (8796093022208000 : Nat) = 1000 * 2 ^ 43 := by decide
      rw [this, Nat.mul_assoc, ← Nat.pow_add]; congr 2; omega
    omega
theorem trunc_int {b : Nat} (hl : geLo b = true) (hh : leHi b = true) : IsInt (trunc b) (iv b) ∧ (iv b).natAbs ≤ 1000 := by
  obtain ⟨s, m, e, hr, hm⟩ := finite_of_range hl hh
  have hk : m / 2 ^ e ≤ 1000 := Nat.div_le_of_le_mul (by rw [Nat.mul_comm]; exact hm)
  have h1 : (-(e : Int)).toNat = 0 := by omega
  have h2 : (-(-(e : Int))).toNat = e := by omega
  unfold trunc iv
  rw [hr]
  simp only [Datum.toInt, Datum.integral, h1, h2, Nat.shiftLeft_zero, cut_down, Option.getD_some, Format.write]
  have := isInt_word s (m / 2 ^ e) (by omega)
  have e1 : (if s = true then -((m / 2 ^ e : Nat) : Int) else ((m / 2 ^ e : Nat) : Int)) = signed s (m / 2 ^ e) 0 := by simp [signed]
  rw [e1] at this
  refine ⟨this, ?_⟩
  rw [signed_natAbs]; simpa using hk
theorem wb_int {b : Nat} (h : wb b = true) : IsInt b (iv b) ∧ (iv b).natAbs ≤ 1000 := by
  unfold wb at h
  simp only [Bool.and_eq_true, beq_iff_eq] at h
  obtain ⟨⟨hl, hh⟩, ho⟩ := h
  obtain ⟨ht, hn⟩ := trunc_int hl hh
  obtain ⟨s, m, e, hr, hm⟩ := finite_of_range hl hh
  exact ⟨int_of_order hr ht ho, hn⟩
theorem iv_int {b : Nat} {n : Int} (h : IsInt b n) : iv b = n := by
  unfold iv; rw [toInt_int h]; rfl
theorem int_wb {b : Nat} {n : Int} (h : IsInt b n) : wb b = decide (-1000 ≤ n ∧ n ≤ 1000) := by
  unfold wb
  rw [geLo_int h, leHi_int h]
  by_cases h1 : -1000 ≤ n
  · by_cases h2 : n ≤ 1000
    · have hl : geLo b = true := by rw [geLo_int h]; simp [h1]
      have hh : leHi b = true := by rw [leHi_int h]; simp [h2]
      have ht := (trunc_int hl hh).1
      rw [iv_int h] at ht
      rw [order_int h ht]; simp [h1, h2]
    · simp [h2]
  · simp [h1]
theorem back_wb {b r : Nat} (hl : geLo b = true) (hh : leHi b = true) (hr : IsInt r (iv b)) : (f64.order r b == some .eq) = wb b := by
  cases hw : wb b with
  | true =>
    have := wb_int hw
    rw [order_int hr this.1]; simp
  | false =>
    by_cases h : f64.order r b = some .eq
    · obtain ⟨s, m, e, hrd, hm⟩ := finite_of_range hl hh
      have hi := int_of_order hrd hr (order_swap h)
      have hn := (trunc_int hl hh).2
      rw [int_wb hi] at hw
      exact absurd hw (by simp; omega)
    · simpa using h
theorem toInt_range {b : Nat} (hl : geLo b = true) (hh : leHi b = true) : floatToIntVal .f64 b .i64 = some (iv b) := by
  obtain ⟨s, m, e, hr, hm⟩ := finite_of_range hl hh
  have hn := (trunc_int hl hh).2
  unfold floatToIntVal
  have hd : FloatKind.f64.decode b = f64.read b := rfl
  have h0 : (f64.read b).toInt .zero = some (iv b) := by
    unfold iv; rw [hr]; rfl
  rw [hd, h0]
  have h1 : IntKind.i64.min ≤ iv b ∧ iv b ≤ IntKind.i64.max := by
    have : IntKind.i64.min = -9223372036854775808 := by decide
    have : IntKind.i64.max = 9223372036854775807 := by decide
    omega
  simp only [h1, and_self, if_true]
theorem toIntVal_int {b : Nat} {n : Int} (h : IsInt b n) (hn : n.natAbs ≤ 4000) : floatToIntVal .f64 b .i64 = some n := by
  unfold floatToIntVal
  have hd : FloatKind.f64.decode b = f64.read b := rfl
  rw [hd, toInt_int h]
  have h1 : IntKind.i64.min ≤ n ∧ n ≤ IntKind.i64.max := by
    have : IntKind.i64.min = -9223372036854775808 := by decide
    have : IntKind.i64.max = 9223372036854775807 := by decide
    omega
  simp only [h1, and_self, if_true]
theorem ofInt_int {n : Int} (hn : n.natAbs ≤ 4000) : IsInt (floatOfInt .f64 n) n := by
  have := isInt_word (decide (n < 0)) n.natAbs hn
  have e : floatOfInt .f64 n = f64.nearest (decide (n < 0)) n.natAbs 0 := rfl
  rw [e]
  by_cases h : n < 0
  · rw [decide_eq_true h] at this ⊢
    rw [if_pos rfl, show -((n.natAbs : Nat) : Int) = n by omega] at this
    exact this
  · rw [decide_eq_false h] at this ⊢
    rw [if_neg (by decide), show ((n.natAbs : Nat) : Int) = n by omega] at this
    exact this
end Fl
end Go.Proofs.YthbjgfennclidaaGreat
/- Rows of items, and of plain rows: how they lie. No walk. -/
namespace Go.Proofs.YthbjgfennclidaaGreat
set_option linter.unusedVariables false
set_option linter.unusedSimpArgs false
set_option maxRecDepth 100000
open Go.RowKit
structure Itm where
  id : ByteArray
  r : Int
  c : Int
  st : Int
  kd : ByteArray
  num : Int
  x : Nat
  y : Nat
  d : Bool
def Itm.zero : Itm := ⟨⟨#[]⟩, 0, 0, 0, ⟨#[]⟩, 0, 0, 0, false⟩
abbrev ic (i : Itm) : List Value := [.string i.id, .int .i64 i.r, .int .i64 i.c, .int .i64 i.st, .string i.kd, .int .i64 i.num, .complex .f64 i.x i.y, .bool i.d]
abbrev rc (i : Itm) : List Value := [.string i.id, .int .i64 i.r, .int .i64 i.c, .int .i64 i.st, .string i.kd, .int .i64 i.num, .float .f64 i.x, .float .f64 i.y, .bool i.d]
abbrev iV (i : Itm) : Value := .agg #[.string i.id, .int .i64 i.r, .int .i64 i.c, .int .i64 i.st, .string i.kd, .int .i64 i.num, .complex .f64 i.x i.y, .bool i.d]
theorem some_posI {α : Type} {l : List α} {k : Nat} {a : α} (h : l[k]? = some a) : k < l.length := (List.getElem?_eq_some_iff.1 h).1
structure RowAt (sz : Nat) (f : Itm → List Value) (w : World) (l : List Itm) (oa : Option Addr) (cap b o : Nat) : Prop where
  len : l.length ≤ cap
  max : cap ≤ maxLen
  at0 : 0 < l.length → oa = some ⟨b, o, none⟩ ∧ b < w.heap.size
  cell : ∀ k i, l[k]? = some i → ∀ j u, (f i)[j]? = some u → w.cell? ⟨b, o + k * sz + j, none⟩ = some u
  ok : ∀ i ∈ l, i.id.size ≤ maxLen ∧ i.kd.size ≤ maxLen
def Row (sz : Nat) (f : Itm → List Value) (w : World) (l : List Itm) (v : Value) : Prop := ∃ oa cap b o, v = .slice oa l.length cap ∧ RowAt sz f w l oa cap b o
theorem RowAt.later {sz : Nat} {f : Itm → List Value} {w w' : World} {l : List Itm} {oa : Option Addr} {cap b o : Nat} (h : RowAt sz f w l oa cap b o) (hb : Below w.heap.size w w') : RowAt sz f w' l oa cap b o := by
  refine ⟨h.len, h.max, fun h0 => ⟨(h.at0 h0).1, Nat.lt_of_lt_of_le (h.at0 h0).2 hb.size⟩, fun k i hk j u hu => ?_, h.ok⟩
  have hlt : b < w.heap.size := (h.at0 (by have := some_posI hk; omega)).2
  exact (hb.cell (p := ⟨b, o + k * sz + j, none⟩) hlt).trans (h.cell k i hk j u hu)
theorem Row.later {sz : Nat} {f : Itm → List Value} {w w' : World} {l : List Itm} {v : Value} (h : Row sz f w l v) (hb : Below w.heap.size w w') : Row sz f w' l v := by
  obtain ⟨oa, cap, b, o, e, h⟩ := h
  exact ⟨oa, cap, b, o, e, h.later hb⟩
theorem ic_cells {w : World} {i : Itm} {b o : Nat} (h : ∀ j u, (ic i)[j]? = some u → w.cell? ⟨b, o + j, none⟩ = some u) :
    w.cell? ⟨b, o, none⟩ = some (.string i.id) ∧ w.cell? ⟨b, o + 1, none⟩ = some (.int .i64 i.r) ∧ w.cell? ⟨b, o + 2, none⟩ = some (.int .i64 i.c) ∧ w.cell? ⟨b, o + 3, none⟩ = some (.int .i64 i.st) ∧ w.cell? ⟨b, o + 4, none⟩ = some (.string i.kd) ∧ w.cell? ⟨b, o + 5, none⟩ = some (.int .i64 i.num) ∧ w.cell? ⟨b, o + 6, none⟩ = some (.complex .f64 i.x i.y) ∧ w.cell? ⟨b, o + 7, none⟩ = some (.bool i.d) :=
  ⟨h 0 _ rfl, h 1 _ rfl, h 2 _ rfl, h 3 _ rfl, h 4 _ rfl, h 5 _ rfl, h 6 _ rfl, h 7 _ rfl⟩
theorem rc_cells {w : World} {i : Itm} {b o : Nat} (h : ∀ j u, (rc i)[j]? = some u → w.cell? ⟨b, o + j, none⟩ = some u) :
    w.cell? ⟨b, o, none⟩ = some (.string i.id) ∧ w.cell? ⟨b, o + 1, none⟩ = some (.int .i64 i.r) ∧ w.cell? ⟨b, o + 2, none⟩ = some (.int .i64 i.c) ∧ w.cell? ⟨b, o + 3, none⟩ = some (.int .i64 i.st) ∧ w.cell? ⟨b, o + 4, none⟩ = some (.string i.kd) ∧ w.cell? ⟨b, o + 5, none⟩ = some (.int .i64 i.num) ∧ w.cell? ⟨b, o + 6, none⟩ = some (.float .f64 i.x) ∧ w.cell? ⟨b, o + 7, none⟩ = some (.float .f64 i.y) ∧ w.cell? ⟨b, o + 8, none⟩ = some (.bool i.d) :=
  ⟨h 0 _ rfl, h 1 _ rfl, h 2 _ rfl, h 3 _ rfl, h 4 _ rfl, h 5 _ rfl, h 6 _ rfl, h 7 _ rfl, h 8 _ rfl⟩
/-! ### A row that the call owns -/
def cellsI (l : List Itm) : List Value := l.flatMap ic
theorem cellsI_len (l : List Itm) : (cellsI l).length = l.length * 8 := by
  induction l with
  | nil => rfl
  | cons i l ih => simp only [cellsI, List.flatMap_cons, List.length_append, List.length_cons, List.length_nil] at *; omega
theorem cellsI_append (l m : List Itm) : cellsI (l ++ m) = cellsI l ++ cellsI m := by simp [cellsI]
theorem cellsI_one (i : Itm) : cellsI [i] = ic i := by simp [cellsI]
theorem cellsI_get (l : List Itm) (k : Nat) (i : Itm) (hk : l[k]? = some i) (j : Nat) (hj : j < 8) : (cellsI l)[k * 8 + j]? = (ic i)[j]? := by
  induction l generalizing k with
  | nil => simp at hk
  | cons a l ih =>
    have e : cellsI (a :: l) = ic a ++ cellsI l := rfl
    rw [e]
    cases k with
    | zero =>
      simp at hk; subst hk
      rw [Nat.zero_mul, Nat.zero_add, List.getElem?_append_left (by simpa using hj)]
    | succ k =>
      simp at hk
      rw [List.getElem?_append_right (by simp; omega), show (k + 1) * 8 + j - (ic a).length = k * 8 + j by simp; omega]
      exact ih k hk
def OwnI (w : World) (base : Nat) (l : List Itm) (v : Value) : Prop := w.ownsRow base 68 8 v l.length (cellsI l)
theorem OwnI.nil (w : World) (base : Nat) : OwnI w base [] (.slice none 0 0) := World.ownsRow_nil _ _ _ _
theorem OwnI.later {w w' : World} {base : Nat} {l : List Itm} {v : Value} (h : OwnI w base l v) (hb : Below w.heap.size w w') : OwnI w' base l v := ownsRow_below h hb
theorem OwnI.alloc {w : World} {base : Nat} {l : List Itm} {v : Value} (h : OwnI w base l v) (o : Obj) : OwnI (w.alloc o) base l v := h.later ((Below.refl _ _).alloc (Nat.le_refl _) _)
theorem OwnI.mono {w : World} {base base' : Nat} {l : List Itm} {v : Value} (h : OwnI w base l v) (hb : base' ≤ base) : OwnI w base' l v := by
  obtain ⟨h1, h2⟩ := h
  refine ⟨h1, ?_⟩
  rcases h2 with h2 | ⟨g, cap, cur, hv, hg, r⟩
  · exact .inl h2
  · exact .inr ⟨g, cap, cur, hv, Nat.le_trans hb hg, r⟩
theorem OwnI.row {w : World} {base : Nat} {l : List Itm} {v : Value} (h : OwnI w base l v) (hok : ∀ i ∈ l, i.id.size ≤ maxLen ∧ i.kd.size ≤ maxLen) : Row 8 ic w l v := by
  obtain ⟨oa, cap, g, e, h1, h2, hg⟩ := row_slice h
  subst e
  refine ⟨oa, cap, g, 0, rfl, h1, h2, fun h0 => ⟨(hg h0).1, (hg h0).2.2⟩, fun k i hk j u hu => ?_, hok⟩
  have hlt := some_posI hk
  obtain ⟨rfl, _⟩ := hg (by omega)
  have hj : j < 8 := (List.getElem?_eq_some_iff.1 hu).1
  unfold OwnI at h
  rw [Nat.zero_add, h.cellAt (k * 8 + j) (by omega), cellsI_get l k i hk j hj]
  exact hu
theorem itI_one (i : Itm) : ∀ u ∈ ic i, u.oneCell' = true := by
  intro u hu
  simp only [ic, List.mem_cons, List.not_mem_nil, or_false] at hu
  rcases hu with rfl | rfl | rfl | rfl | rfl | rfl | rfl | rfl <;> rfl
theorem newsI {w : World} {i : Itm} {t : TypeId} : ∀ j u, (ic i)[j]? = some u → (w.alloc (.cells #[.string i.id, .int .i64 i.r, .int .i64 i.c, .int .i64 i.st, .string i.kd, .int .i64 i.num, .complex .f64 i.x i.y, .bool i.d] t)).cell? ((⟨w.heap.size, 0, none⟩ : Addr).add j) = some u :=
  World.news_of_block (cs := #[.string i.id, .int .i64 i.r, .int .i64 i.c, .int .i64 i.st, .string i.kd, .int .i64 i.num, .complex .f64 i.x i.y, .bool i.d]) (t := t) (fr := (0, 0)) (heap_alloc_new w _)
theorem OwnI.push {w : World} {base n g cap : Nat} {l : List Itm} {i : Itm} (h : w.ownsRow base 68 8 (.slice (some ⟨g, 0, none⟩) n cap) n (cellsI l ++ ic i)) (hn : n = l.length + 1) : OwnI w base (l ++ [i]) (.slice (some ⟨g, 0, none⟩) n cap) := by
  unfold OwnI
  rw [cellsI_append, cellsI_one, List.length_append]
  subst hn
  exact h
theorem rowI_news {w : World} {l : List Itm} {oa : Option Addr} {cap b o n : Nat} (h : RowAt 8 ic w l oa cap b o) (hn : l.length = n) : ∀ j u, (cellsI l)[j]? = some u → w.cell? ((⟨b, o, none⟩ : Addr).add j) = some u := by
  intro j u hu
  have hadd : (⟨b, o, none⟩ : Addr).add j = ⟨b, o + j, none⟩ := by unfold Addr.add; split <;> simp_all
  rw [hadd]
  have hj := (List.getElem?_eq_some_iff.1 hu).1
  rw [cellsI_len] at hj
  have hi : j / 8 < l.length := by omega
  have hp : l[j / 8]? = some l[j / 8] := List.getElem?_eq_getElem hi
  have e : j = j / 8 * 8 + j % 8 := by omega
  rw [e, cellsI_get _ _ _ hp _ (by omega)] at hu
  have := h.cell _ _ hp _ _ hu
  rw [show o + j / 8 * 8 + j % 8 = o + j by omega] at this
  exact this
theorem takeI {l : List Itm} {k : Nat} {i : Itm} (h : l[k]? = some i) : l.take (k + 1) = l.take k ++ [i] := by
  obtain ⟨hk, e⟩ := List.getElem?_eq_some_iff.1 h
  rw [List.take_succ_eq_append_getElem hk, e]
theorem OwnI.len {w : World} {base : Nat} {l : List Itm} {v : Value} (h : OwnI w base l v) : ∃ oa cap, v = .slice oa l.length cap := by
  obtain ⟨oa, cap, g, e, _⟩ := row_slice h
  exact ⟨oa, cap, e⟩
theorem below_push {w0 w w' : World} {B base : Nat} {l : List Itm} {v : Value} (h : OwnI w base l v) (hb : Below B w0 w) (hB : B ≤ base) (hg : w.grownBy w' v.ownBlock) (hsz : B ≤ w.heap.size) : Below B w0 w' :=
  hb.grown hg hsz fun k hk => by have := (World.ownsRow.lt h k hk).1; omega
theorem info_item : (Tryz.prog.info? 68).map (fun i => (i.zero, i.size, i.bytes)) = some (some (.agg #[.string ⟨#[]⟩, .int .i64 0, .int .i64 0, .int .i64 0, .string ⟨#[]⟩, .int .i64 0, .complex .f64 0 0, .bool false]), 8, 88) := by kernel_rfl
end Go.Proofs.YthbjgfennclidaaGreat
/- Lists of items: plain data made items, and the document's answers, walked. -/
namespace Go.Proofs.YthbjgfennclidaaGreat
set_option linter.unusedVariables false
set_option linter.unusedSimpArgs false
set_option maxRecDepth 100000
open Go.RowKit
def FRel (F : Nat → List Itm) (len : Nat) (w : World) (lv iv : Value) (wr : World) : Prop :=
  ∃ (k : Nat) (sv : Value), k ≤ len ∧ iv = .int .i64 k ∧ sv = lv ∧ Hid (OwnI wr w.heap.size (F k) sv) ∧ Hid (Below w.heap.size w wr)
set_option maxRecDepth 100000 in
set_option maxHeartbeats 4000000 in
theorem items_calls (l : List Itm) (v : Value) (w : World) (hR : Row 9 rc w l v) (hlen : l.length ≤ 10000) :
    Calls Tryz.prog 51 #[v] w fun e w' => ∃ v', e = .returned v' ∧ OwnI w' w.heap.size l v' ∧ Below w.heap.size w w' := by
  obtain ⟨oa, cap, b, o, rfl, hr⟩ := hR
  obtain ⟨i0, hi, hz0, hz1, hz2⟩ := info_parts info_item
  have HR := Lib.hid hr
  have hcap := hr.len
  have hmax := hr.max
  unfold maxLen at hmax
  clear hr
  generalize hn : l.length = len at *
  have HN := Lib.hid hn
  clear hn
  go_enter Tryz.func51, Tryz.ntmps51
  go_wp2_with fail
  go_loopw [3, 4] (fun lv iv wr => FRel (fun k => l.take k) len w lv iv wr) (fun _ iv _ => len - (intOf iv).toNat)
  case atStart => exact ⟨0, _, Nat.zero_le _, rfl, rfl, by unfold Hid; exact OwnI.nil _ _, Below.refl _ _⟩
  case round =>
    obtain ⟨k, sv, hk, rfl, rfl, HO, HB⟩ := hrel
    replace HO := Lib.hid (show OwnI wr w.heap.size (l.take k) sv from HO.out)
    by_cases hlt : k < len
    · obtain ⟨i, hi9⟩ : ∃ i, l[k]? = some i := ⟨_, List.getElem?_eq_getElem (by rw [HN.out]; exact hlt)⟩
      obtain ⟨rfl, hb0⟩ := HR.out.at0 (by rw [HN.out]; omega)
      obtain ⟨c0, c1, c2, c3, c4, c5, c6, c7, c8⟩ := rc_cells (w := wr) (fun j u hu => (HB.out.cell (p := ⟨b, o + k * 9 + j, none⟩) hb0).trans (HR.out.cell k i hi9 j u hu))
      have zb := Nat.lt_of_lt_of_le hb0 HB.out.size
      have C := Lib.hid (item_calls i.id i.r i.c i.st i.kd i.num i.x i.y i.d wr)
      have hlk : (l.take k).length = k := by rw [List.length_take, HN.out]; omega
      have HI := Lib.hid hi9
      clear hi9
      have zw := HB.out.size
      go_wp2_with fail
      refine C.out.mono ?_
      rintro e w2 ⟨rfl, hb2⟩
      have HO2 := Lib.hid (HO.out.later hb2)
      have HB2 := Lib.hid (HB.out.trans (hb2.mono HB.out.size))
      have zw2 := HB2.out.size
      clear hb2
      have HO3 := Lib.hid (HO2.out.alloc (.cells #[.string i.id, .int .i64 i.r, .int .i64 i.c, .int .i64 i.st, .string i.kd, .int .i64 i.num, .complex .f64 i.x i.y, .bool i.d] 68))
      have HB3 := Lib.hid (HB2.out.alloc zw2 (.cells #[.string i.id, .int .i64 i.r, .int .i64 i.c, .int .i64 i.st, .string i.kd, .int .i64 i.num, .complex .f64 i.x i.y, .bool i.d] 68))
      have hown : (w2.alloc (.cells #[.string i.id, .int .i64 i.r, .int .i64 i.c, .int .i64 i.st, .string i.kd, .int .i64 i.num, .complex .f64 i.x i.y, .bool i.d] 68)).ownsRow w.heap.size 68 8 sv k (cellsI (l.take k)) := by have := HO3.out; unfold OwnI at this; rw [hlk] at this; exact this
      go_wp2_with (at_builtin; refine wpList_append_lies _ (by rfl) _ _ _ (by rfl) w.heap.size 68 i0 _ 8 88 Tryz.underlying50 hi hz0 hz1 hz2 rfl (by omega) sv k (cellsI (l.take k)) (by rfl) hown ⟨w2.heap.size, 0, none⟩ 1 1 (ic i) (by rfl) (by rfl) newsI (itI_one i) (by omega) (by unfold maxLen; omega) (by omega) (by simp; omega) (w2.heap.size + 1) (by simp) ?_; intro g cap' w3 hown3 hgrow hat hlt3)
      have R1 := Lib.hid (OwnI.push hown3 (by omega))
      have R2 := Lib.hid (below_push HO3.out HB3.out (Nat.le_refl _) hgrow HB3.out.size)
      clear hown hown3 hgrow hat
      go_roundw
      case rel => exact ⟨k + 1, _, by omega, by go_num, rfl, Lib.hid (by show OwnI _ _ (l.take (k + 1)) _; rw [takeI HI.out]; exact R1.out), R2⟩
      case measure => simp [intOf]; omega
    · have e : len = k := by omega
      subst e
      have h1 := HO.out
      rw [List.take_of_length_le (by rw [HN.out]; omega)] at h1
      have H1 := Lib.hid h1
      clear h1
      go_wp2_with fail
      go_ret
      exact ⟨_, rfl, H1.out, HB.out⟩
def neB (id : ByteArray) (i : Itm) : Bool := !(i.id.toList == id.toList)
theorem filt_put {p : Itm → Bool} {l : List Itm} {k : Nat} {i : Itm} (h : l[k]? = some i) (hp : p i = true) : (l.take (k + 1)).filter p = (l.take k).filter p ++ [i] := by
  rw [takeI h, List.filter_append]; simp [hp]
theorem filt_skip {p : Itm → Bool} {l : List Itm} {k : Nat} {i : Itm} (h : l[k]? = some i) (hp : p i = false) : (l.take (k + 1)).filter p = (l.take k).filter p := by
  rw [takeI h, List.filter_append]; simp [hp]
theorem filt_len {p : Itm → Bool} {l : List Itm} {k : Nat} : ((l.take k).filter p).length ≤ k := Nat.le_trans (List.length_filter_le _ _) (by rw [List.length_take]; omega)
def getI (l : List Itm) (id : ByteArray) : Itm × Bool := match l.find? (fun i => i.id.toList == id.toList) with
  | some i => (i, true)
  | none => (Itm.zero, false)
theorem find_at {p : Itm → Bool} {l : List Itm} {k : Nat} {i : Itm} (h : l[k]? = some i) (hp : p i = true) (hn : ∀ j x, j < k → l[j]? = some x → p x = false) : l.find? p = some i := by
  induction l generalizing k with
  | nil => simp at h
  | cons a l ih =>
    cases k with
    | zero => simp at h; subst h; simp [List.find?_cons, hp]
    | succ k =>
      simp at h
      have := hn 0 a (by omega) rfl
      rw [List.find?_cons, this]
      exact ih h fun j x hj hx => hn (j + 1) x (by omega) (by simpa using hx)
theorem find_no {p : Itm → Bool} {l : List Itm} (hn : ∀ j x, j < l.length → l[j]? = some x → p x = false) : l.find? p = none := by
  rw [List.find?_eq_none]
  intro x hx
  obtain ⟨j, hj, e⟩ := List.mem_iff_getElem.1 hx
  have := hn j x hj (by rw [List.getElem?_eq_getElem hj, e])
  simp [this]
def GRel (l : List Itm) (id : ByteArray) (len : Nat) (w : World) (iv : Value) (wr : World) : Prop :=
  ∃ k : Nat, k ≤ len ∧ iv = .int .i64 k ∧ Hid (∀ j x, j < k → l[j]? = some x → (x.id.toList == id.toList) = false) ∧ Hid (Own wr w.heap.size #[.string ⟨#[]⟩, .int .i64 0, .int .i64 0, .int .i64 0, .string ⟨#[]⟩, .int .i64 0, .complex .f64 0 0, .bool false] 68) ∧ Hid (Below w.heap.size w wr)
set_option maxRecDepth 100000 in
set_option maxHeartbeats 4000000 in
theorem refGet_calls (l : List Itm) (id : ByteArray) (v : Value) (w : World) (hR : Row 8 ic w l v) :
    Calls Tryz.prog 53 #[v, .string id] w fun e w' => e = .returned (.tuple #[iV (getI l id).1, .bool (getI l id).2]) ∧ Below w.heap.size w w' := by
  obtain ⟨oa, cap, b, o, rfl, hr⟩ := hR
  have HR := Lib.hid hr
  have hcap := hr.len
  have hmax := hr.max
  unfold maxLen at hmax
  clear hr
  generalize hg : getI l id = gg at *
  have HG := Lib.hid hg
  clear hg
  generalize hn : l.length = len at *
  have HN := Lib.hid hn
  clear hn
  go_enter Tryz.func53, Tryz.ntmps53
  go_wp2_with fail
  go_loopw [6] (fun iv wr => GRel l id len w iv wr) (fun iv _ => len - (intOf iv).toNat)
  case atStart => exact ⟨0, Nat.zero_le _, rfl, fun j x hj => absurd hj (by omega), by unfold Hid; exact Own.new _ _ _, by unfold Hid; exact (Below.refl _ _).alloc (Nat.le_refl _) _⟩
  case round =>
    obtain ⟨k, hk, rfl, HS, HO, HB⟩ := hrel
    by_cases hlt : k < len
    · obtain ⟨i, hi9⟩ : ∃ i, l[k]? = some i := ⟨_, List.getElem?_eq_getElem (by rw [HN.out]; exact hlt)⟩
      obtain ⟨rfl, hb0⟩ := HR.out.at0 (by rw [HN.out]; omega)
      obtain ⟨c0, c1, c2, c3, c4, c5, c6, c7⟩ := ic_cells (w := wr) (fun j u hu => (HB.out.cell (p := ⟨b, o + k * 8 + j, none⟩) hb0).trans (HR.out.cell k i hi9 j u hu))
      have zb := Nat.lt_of_lt_of_le hb0 HB.out.size
      have HI := Lib.hid hi9
      clear hi9
      cases ht : (i.id.toList == id.toList)
      · have HS2 := Lib.hid (show ∀ j x, j < k + 1 → l[j]? = some x → (x.id.toList == id.toList) = false from fun j x hj hx => by
          by_cases e : j = k
          · subst e; rw [HI.out] at hx; cases hx; exact ht
          · exact HS.out j x (by omega) hx)
        go_wp2_with fail
        go_roundw
        case rel => exact ⟨k + 1, by omega, by go_num, HS2.out, HO, HB⟩
        case measure => simp [intOf]; omega
      · have E := Lib.hid (show gg = (i, true) by rw [← HG.out]; unfold getI; rw [find_at HI.out ht HS.out])
        have l1 := HO.out.cell
        have f1 := HO.out.free
        have z1 := HO.out.lt
        have hne : b ≠ w.heap.size := by omega
        go_wp2_with fail
        clear ht
        -- found
        have key := And.intro (st8_own HO.out (.string i.id) (.int .i64 i.r) (.int .i64 i.c) (.int .i64 i.st) (.string i.kd) (.int .i64 i.num) (.complex .f64 i.x i.y) (.bool i.d)) (st8_below (b := w.heap.size) HB.out (Nat.le_refl _) (.string i.id) (.int .i64 i.r) (.int .i64 i.c) (.int .i64 i.st) (.string i.kd) (.int .i64 i.num) (.complex .f64 i.x i.y) (.bool i.d))
        clear l1 f1 z1 c0 c1 c2 c3 c4 c5 c6 c7
        unfold st8 at key
        revert key
        generalize World.setCell (World.setCell (World.setCell (World.setCell (World.setCell (World.setCell (World.setCell (World.setCell _ _ _) _ _) _ _) _ _) _ _) _ _) _ _) _ _ = WW
        rintro ⟨of, bf⟩
        have lf := of.cell
        refine bodyPost_ret (v := .tuple #[iV i, .bool true]) (by simp [results, Tryz.results53, go_sem, lf, Itm.zero]) rfl ⟨by rw [E.out], bf⟩
    · have E := Lib.hid (show gg = (Itm.zero, false) by
        rw [← HG.out]; unfold getI
        rw [find_no (fun j x hj hx => HS.out j x (by rw [HN.out] at hj; omega) hx)])
      have l1 := HO.out.cell
      have f1 := HO.out.free
      have z1 := HO.out.lt
      go_wp2_with fail
      have key := And.intro (st8_own HO.out (.string ⟨#[]⟩) (.int .i64 0) (.int .i64 0) (.int .i64 0) (.string ⟨#[]⟩) (.int .i64 0) (.complex .f64 0 0) (.bool false)) (st8_below (b := w.heap.size) HB.out (Nat.le_refl _) (.string ⟨#[]⟩) (.int .i64 0) (.int .i64 0) (.int .i64 0) (.string ⟨#[]⟩) (.int .i64 0) (.complex .f64 0 0) (.bool false))
      clear l1 f1 z1
      unfold st8 at key
      revert key
      generalize World.setCell (World.setCell (World.setCell (World.setCell (World.setCell (World.setCell (World.setCell (World.setCell _ _ _) _ _) _ _) _ _) _ _) _ _) _ _) _ _ = WW
      rintro ⟨of, bf⟩
      have lf := of.cell
      refine bodyPost_ret (v := .tuple #[iV Itm.zero, .bool false]) (by simp [results, Tryz.results53, go_sem, lf, Itm.zero]) rfl ⟨by rw [E.out], bf⟩
def putI (l : List Itm) (x : Itm) : List Itm := (l.filter (fun i => lsB i.id x.id) ++ [x]) ++ l.filter (fun i => gtB i.id x.id)
def PutRel (F : Nat → List Itm) (len : Nat) (X : Array Value) (w : World) (lv iv : Value) (wr : World) : Prop :=
  ∃ (k : Nat) (sv : Value), k ≤ len ∧ iv = .int .i64 k ∧ sv = lv ∧ Hid (OwnI wr (w.heap.size + 1) (F k) sv) ∧ Hid (Own wr w.heap.size X 68) ∧ Hid (Below w.heap.size w wr)
set_option maxRecDepth 100000 in
set_option maxHeartbeats 8000000 in
theorem refPut_calls (l : List Itm) (x : Itm) (v : Value) (w : World) (hR : Row 8 ic w l v) (hlen : l.length ≤ 10000) :
    Calls Tryz.prog 67 #[v, iV x] w fun e w' => ∃ v', e = .returned v' ∧ OwnI w' w.heap.size (putI l x) v' ∧ Below w.heap.size w w' := by
  obtain ⟨oa, cap, b, o, rfl, hr⟩ := hR
  obtain ⟨i0, hi, hz0, hz1, hz2⟩ := info_parts info_item
  have HR := Lib.hid hr
  have hcap := hr.len
  have hmax := hr.max
  unfold maxLen at hmax
  clear hr
  generalize hn : l.length = len at *
  have HN := Lib.hid hn
  clear hn
  go_enter Tryz.func67, Tryz.ntmps67
  go_wp2_with fail
  go_loopw [5, 6] (fun lv iv wr => PutRel (fun k => (l.take k).filter (fun i => lsB i.id x.id)) len #[.string x.id, .int .i64 x.r, .int .i64 x.c, .int .i64 x.st, .string x.kd, .int .i64 x.num, .complex .f64 x.x x.y, .bool x.d] w lv iv wr) (fun _ iv _ => len - (intOf iv).toNat)
  case atStart => exact ⟨0, _, Nat.zero_le _, rfl, rfl, by unfold Hid; exact OwnI.nil _ _, by unfold Hid; exact Own.new _ _ _, by unfold Hid; exact (Below.refl _ _).alloc (Nat.le_refl _) _⟩
  case round =>
    obtain ⟨k, sv, hk, rfl, rfl, HO, HX, HB⟩ := hrel
    replace HO := Lib.hid (show OwnI wr (w.heap.size + 1) ((l.take k).filter (fun i => lsB i.id x.id)) sv from HO.out)
    by_cases hlt : k < len
    · obtain ⟨i, hi9⟩ : ∃ i, l[k]? = some i := ⟨_, List.getElem?_eq_getElem (by rw [HN.out]; exact hlt)⟩
      obtain ⟨rfl, hb0⟩ := HR.out.at0 (by rw [HN.out]; omega)
      obtain ⟨c0, c1, c2, c3, c4, c5, c6, c7⟩ := ic_cells (w := wr) (fun j u hu => (HB.out.cell (p := ⟨b, o + k * 8 + j, none⟩) hb0).trans (HR.out.cell k i hi9 j u hu))
      have zb := Nat.lt_of_lt_of_le hb0 HB.out.size
      have r0 := fun dd os => cell_regrown c0 dd os
      have LA := fun dd os o => HX.out.has.regrown dd os o
      have zw := HB.out.size
      have HI := Lib.hid hi9
      have zx := HX.out.lt
      have hk0 : (0 : Int) ≤ (k : Int) := by omega
      have hk1 : (k : Int) < (len : Int) := by omega
      clear c0 c1 c2 c3 c4 c5 c6 c7 hi9
      cases ht : lsB i.id x.id
      · have HF := Lib.hid (filt_skip (p := (fun i => lsB i.id x.id)) HI.out ht)
        have hg := ht
        unfold lsB at hg
        go_wp2_with fail
        refine wp_region_quiet_below (by kernel_rfl) (by kernel_rfl) ?_
        repeat (first | go_big_quiet_step (fail) | quiet_step (fail))
        refine wpQuiet_nil ?_
        intro w7 hw'
        have hb' := Lib.hid (regrown_below hw')
        clear hw'
        clear r0 LA
        have HO7 := Lib.hid (HO.out.later hb'.out)
        have HX7 := Lib.hid (HX.out.later hb'.out)
        have HB7 := Lib.hid (HB.out.trans (hb'.out.mono HB.out.size))
        go_wp2_with fail
        go_roundw
        case rel => exact ⟨k + 1, _, by omega, by go_num, rfl, Lib.hid (by show OwnI _ _ ((l.take (k + 1)).filter (fun i => lsB i.id x.id)) _; rw [HF.out]; exact HO7.out), HX7, HB7⟩
        case measure => simp [intOf]; omega
      · have HF := Lib.hid (filt_put (p := (fun i => lsB i.id x.id)) HI.out ht)
        have hg := ht
        unfold lsB at hg
        have hfl : ((l.take k).filter (fun i => lsB i.id x.id)).length ≤ 20001 := by
          have h1 := filt_len (p := (fun i => lsB i.id x.id)) (l := l) (k := k)
          have h2 := List.length_filter_le (fun i => lsB i.id x.id) l
          have h3 := HN.out
          try simp only [List.length_append, List.length_cons, List.length_nil] at *
          omega
        obtain ⟨nk, hnk⟩ : ∃ nk, nk = ((l.take k).filter (fun i => lsB i.id x.id)).length := ⟨_, rfl⟩
        rw [← hnk] at hfl
        go_wp2_with fail
        refine wp_region_quiet_below (by kernel_rfl) (by kernel_rfl) ?_
        repeat (first | go_big_quiet_step (fail) | quiet_step (fail))
        refine wpQuiet_nil ?_
        intro w7 hw'
        have hb' := Lib.hid (regrown_below hw')
        clear hw'
        clear r0 LA
        have HO7 := Lib.hid (HO.out.later hb'.out)
        have HX7 := Lib.hid (HX.out.later hb'.out)
        have HB7 := Lib.hid (HB.out.trans (hb'.out.mono HB.out.size))
        have zw7 := HB7.out.size
        have zx7 := HX7.out.lt
        obtain ⟨d0, d1, d2, d3, d4, d5, d6, d7⟩ := ic_cells (w := w7) (fun j u hu => (HB7.out.cell (p := ⟨b, o + k * 8 + j, none⟩) hb0).trans (HR.out.cell k i HI.out j u hu))
        have zb7 := Nat.lt_of_lt_of_le hb0 HB7.out.size
        have HO3 := Lib.hid (HO7.out.alloc (.cells #[.string i.id, .int .i64 i.r, .int .i64 i.c, .int .i64 i.st, .string i.kd, .int .i64 i.num, .complex .f64 i.x i.y, .bool i.d] 68))
        have HX3 := Lib.hid (HX7.out.alloc (.cells #[.string i.id, .int .i64 i.r, .int .i64 i.c, .int .i64 i.st, .string i.kd, .int .i64 i.num, .complex .f64 i.x i.y, .bool i.d] 68))
        have HB3 := Lib.hid (HB7.out.alloc zw7 (.cells #[.string i.id, .int .i64 i.r, .int .i64 i.c, .int .i64 i.st, .string i.kd, .int .i64 i.num, .complex .f64 i.x i.y, .bool i.d] 68))
        have hown : (w7.alloc (.cells #[.string i.id, .int .i64 i.r, .int .i64 i.c, .int .i64 i.st, .string i.kd, .int .i64 i.num, .complex .f64 i.x i.y, .bool i.d] 68)).ownsRow (w.heap.size + 1) 68 8 sv nk (cellsI ((l.take k).filter (fun i => lsB i.id x.id))) := by rw [hnk]; exact HO3.out
        have HNK := Lib.hid hnk
        clear hnk
        go_wp2_with (at_builtin; refine wpList_append_lies _ (by rfl) _ _ _ (by rfl) (w.heap.size + 1) 68 i0 _ 8 88 Tryz.underlying50 hi hz0 hz1 hz2 rfl (by omega) sv nk (cellsI ((l.take k).filter (fun i => lsB i.id x.id))) (by rfl) hown ⟨w7.heap.size, 0, none⟩ 1 1 (ic i) (by rfl) (by rfl) newsI (itI_one i) (by omega) (by unfold maxLen; omega) (by omega) (by simp; omega) (w7.heap.size + 1) (by simp) ?_; intro g cap' w3 hown3 hgrow hat hlt3)
        have R1 := Lib.hid (OwnI.push hown3 (by rw [HNK.out]))
        have R2 := Lib.hid (below_push HO3.out HB3.out (by omega) hgrow HB3.out.size)
        have R3 := Lib.hid (HX3.out.grown hgrow (own_ne HO3.out (by omega)))
        clear hown hown3 hgrow hat
        go_roundw
        case rel => exact ⟨k + 1, _, by omega, by go_num, rfl, Lib.hid (by show OwnI _ _ ((l.take (k + 1)).filter (fun i => lsB i.id x.id)) _; rw [HF.out]; first | exact R1.out | (rw [← List.append_assoc]; exact R1.out)), R3, R2⟩
        case measure => simp [intOf]; omega
    · have e : len = k := by omega
      subst e
      have h1 := HO.out
      rw [List.take_of_length_le (by rw [HN.out]; omega)] at h1
      have HO := Lib.hid h1
      clear h1
      have l1 := HX.out.cell
      have zx := HX.out.lt
      have zw := HB.out.size
      have hfl : (l.filter (fun i => lsB i.id x.id)).length ≤ 10000 := by
        have h2 := List.length_filter_le (fun i => lsB i.id x.id) l
        have h3 := HN.out
        omega
      have HO3 := Lib.hid (HO.out.alloc (.cells #[.string x.id, .int .i64 x.r, .int .i64 x.c, .int .i64 x.st, .string x.kd, .int .i64 x.num, .complex .f64 x.x x.y, .bool x.d] 68))
      have HX3 := Lib.hid (HX.out.alloc (.cells #[.string x.id, .int .i64 x.r, .int .i64 x.c, .int .i64 x.st, .string x.kd, .int .i64 x.num, .complex .f64 x.x x.y, .bool x.d] 68))
      have HB3 := Lib.hid (HB.out.alloc zw (.cells #[.string x.id, .int .i64 x.r, .int .i64 x.c, .int .i64 x.st, .string x.kd, .int .i64 x.num, .complex .f64 x.x x.y, .bool x.d] 68))
      have hown : (wr.alloc (.cells #[.string x.id, .int .i64 x.r, .int .i64 x.c, .int .i64 x.st, .string x.kd, .int .i64 x.num, .complex .f64 x.x x.y, .bool x.d] 68)).ownsRow (w.heap.size + 1) 68 8 sv (l.filter (fun i => lsB i.id x.id)).length (cellsI (l.filter (fun i => lsB i.id x.id))) := HO3.out
      go_wp2_with (at_builtin; refine wpList_append_lies _ (by rfl) _ _ _ (by rfl) (w.heap.size + 1) 68 i0 _ 8 88 Tryz.underlying50 hi hz0 hz1 hz2 rfl (by omega) sv (l.filter (fun i => lsB i.id x.id)).length (cellsI (l.filter (fun i => lsB i.id x.id))) (by rfl) hown ⟨wr.heap.size, 0, none⟩ 1 1 (ic x) (by rfl) (by rfl) newsI (itI_one x) (by omega) (by unfold maxLen; omega) (by omega) (by simp; omega) (wr.heap.size + 1) (by simp) ?_; intro g cap' w3 hown3 hgrow hat hlt3)
      have R1 := Lib.hid (OwnI.push hown3 rfl)
      have R2 := Lib.hid (below_push HO3.out HB3.out (by omega) hgrow HB3.out.size)
      have R3 := Lib.hid (HX3.out.grown hgrow (own_ne HO3.out (by omega)))
      clear hown hown3 hgrow hat l1 HO HX HB HO3 HX3 HB3
      go_wp2_with fail
      go_loopw [5, 7] (fun lv iv wr => PutRel (fun k => (l.filter (fun i => lsB i.id x.id) ++ [x]) ++ (l.take k).filter (fun i => gtB i.id x.id)) len #[.string x.id, .int .i64 x.r, .int .i64 x.c, .int .i64 x.st, .string x.kd, .int .i64 x.num, .complex .f64 x.x x.y, .bool x.d] w lv iv wr) (fun _ iv _ => len - (intOf iv).toNat)
      case atStart => exact ⟨0, _, Nat.zero_le _, rfl, rfl, Lib.hid (by simpa using R1.out), R3, R2⟩
      case round =>
        obtain ⟨k, sv, hk, rfl, rfl, HO, HX, HB⟩ := hrel
        replace HO := Lib.hid (show OwnI wr (w.heap.size + 1) ((l.filter (fun i => lsB i.id x.id) ++ [x]) ++ (l.take k).filter (fun i => gtB i.id x.id)) sv from HO.out)
        by_cases hlt : k < len
        · obtain ⟨i, hi9⟩ : ∃ i, l[k]? = some i := ⟨_, List.getElem?_eq_getElem (by rw [HN.out]; exact hlt)⟩
          obtain ⟨rfl, hb0⟩ := HR.out.at0 (by rw [HN.out]; omega)
          obtain ⟨c0, c1, c2, c3, c4, c5, c6, c7⟩ := ic_cells (w := wr) (fun j u hu => (HB.out.cell (p := ⟨b, o + k * 8 + j, none⟩) hb0).trans (HR.out.cell k i hi9 j u hu))
          have zb := Nat.lt_of_lt_of_le hb0 HB.out.size
          have r0 := fun dd os => cell_regrown c0 dd os
          have LA := fun dd os o => HX.out.has.regrown dd os o
          have zw := HB.out.size
          have HI := Lib.hid hi9
          have zx := HX.out.lt
          have hk0 : (0 : Int) ≤ (k : Int) := by omega
          have hk1 : (k : Int) < (len : Int) := by omega
          clear c0 c1 c2 c3 c4 c5 c6 c7 hi9
          cases ht : gtB i.id x.id
          · have HF := Lib.hid (filt_skip (p := (fun i => gtB i.id x.id)) HI.out ht)
            have hg := ht
            unfold gtB at hg
            go_wp2_with fail
            refine wp_region_quiet_below (by kernel_rfl) (by kernel_rfl) ?_
            repeat (first | go_big_quiet_step (fail) | quiet_step (fail))
            refine wpQuiet_nil ?_
            intro w7 hw'
            have hb' := Lib.hid (regrown_below hw')
            clear hw'
            clear r0 LA
            have HO7 := Lib.hid (HO.out.later hb'.out)
            have HX7 := Lib.hid (HX.out.later hb'.out)
            have HB7 := Lib.hid (HB.out.trans (hb'.out.mono HB.out.size))
            go_wp2_with fail
            go_roundw
            case rel => exact ⟨k + 1, _, by omega, by go_num, rfl, Lib.hid (by show OwnI _ _ ((l.filter (fun i => lsB i.id x.id) ++ [x]) ++ (l.take (k + 1)).filter (fun i => gtB i.id x.id)) _; rw [HF.out]; exact HO7.out), HX7, HB7⟩
            case measure => simp [intOf]; omega
          · have HF := Lib.hid (filt_put (p := (fun i => gtB i.id x.id)) HI.out ht)
            have hg := ht
            unfold gtB at hg
            have hfl : ((l.filter (fun i => lsB i.id x.id) ++ [x]) ++ (l.take k).filter (fun i => gtB i.id x.id)).length ≤ 20001 := by
              have h1 := filt_len (p := (fun i => gtB i.id x.id)) (l := l) (k := k)
              have h2 := List.length_filter_le (fun i => lsB i.id x.id) l
              have h3 := HN.out
              try simp only [List.length_append, List.length_cons, List.length_nil] at *
              omega
            obtain ⟨nk, hnk⟩ : ∃ nk, nk = ((l.filter (fun i => lsB i.id x.id) ++ [x]) ++ (l.take k).filter (fun i => gtB i.id x.id)).length := ⟨_, rfl⟩
            rw [← hnk] at hfl
            go_wp2_with fail
            refine wp_region_quiet_below (by kernel_rfl) (by kernel_rfl) ?_
            repeat (first | go_big_quiet_step (fail) | quiet_step (fail))
            refine wpQuiet_nil ?_
            intro w7 hw'
            have hb' := Lib.hid (regrown_below hw')
            clear hw'
            clear r0 LA
            have HO7 := Lib.hid (HO.out.later hb'.out)
            have HX7 := Lib.hid (HX.out.later hb'.out)
            have HB7 := Lib.hid (HB.out.trans (hb'.out.mono HB.out.size))
            have zw7 := HB7.out.size
            have zx7 := HX7.out.lt
            obtain ⟨d0, d1, d2, d3, d4, d5, d6, d7⟩ := ic_cells (w := w7) (fun j u hu => (HB7.out.cell (p := ⟨b, o + k * 8 + j, none⟩) hb0).trans (HR.out.cell k i HI.out j u hu))
            have zb7 := Nat.lt_of_lt_of_le hb0 HB7.out.size
            have HO3 := Lib.hid (HO7.out.alloc (.cells #[.string i.id, .int .i64 i.r, .int .i64 i.c, .int .i64 i.st, .string i.kd, .int .i64 i.num, .complex .f64 i.x i.y, .bool i.d] 68))
            have HX3 := Lib.hid (HX7.out.alloc (.cells #[.string i.id, .int .i64 i.r, .int .i64 i.c, .int .i64 i.st, .string i.kd, .int .i64 i.num, .complex .f64 i.x i.y, .bool i.d] 68))
            have HB3 := Lib.hid (HB7.out.alloc zw7 (.cells #[.string i.id, .int .i64 i.r, .int .i64 i.c, .int .i64 i.st, .string i.kd, .int .i64 i.num, .complex .f64 i.x i.y, .bool i.d] 68))
            have hown : (w7.alloc (.cells #[.string i.id, .int .i64 i.r, .int .i64 i.c, .int .i64 i.st, .string i.kd, .int .i64 i.num, .complex .f64 i.x i.y, .bool i.d] 68)).ownsRow (w.heap.size + 1) 68 8 sv nk (cellsI ((l.filter (fun i => lsB i.id x.id) ++ [x]) ++ (l.take k).filter (fun i => gtB i.id x.id))) := by rw [hnk]; exact HO3.out
            have HNK := Lib.hid hnk
            clear hnk
            go_wp2_with (at_builtin; refine wpList_append_lies _ (by rfl) _ _ _ (by rfl) (w.heap.size + 1) 68 i0 _ 8 88 Tryz.underlying50 hi hz0 hz1 hz2 rfl (by omega) sv nk (cellsI ((l.filter (fun i => lsB i.id x.id) ++ [x]) ++ (l.take k).filter (fun i => gtB i.id x.id))) (by rfl) hown ⟨w7.heap.size, 0, none⟩ 1 1 (ic i) (by rfl) (by rfl) newsI (itI_one i) (by omega) (by unfold maxLen; omega) (by omega) (by simp; omega) (w7.heap.size + 1) (by simp) ?_; intro g cap' w3 hown3 hgrow hat hlt3)
            have R1 := Lib.hid (OwnI.push hown3 (by rw [HNK.out]))
            have R2 := Lib.hid (below_push HO3.out HB3.out (by omega) hgrow HB3.out.size)
            have R3 := Lib.hid (HX3.out.grown hgrow (own_ne HO3.out (by omega)))
            clear hown hown3 hgrow hat
            go_roundw
            case rel => exact ⟨k + 1, _, by omega, by go_num, rfl, Lib.hid (by show OwnI _ _ ((l.filter (fun i => lsB i.id x.id) ++ [x]) ++ (l.take (k + 1)).filter (fun i => gtB i.id x.id)) _; rw [HF.out]; first | exact R1.out | (rw [← List.append_assoc]; exact R1.out)), R3, R2⟩
            case measure => simp [intOf]; omega
        · have e : len = k := by omega
          subst e
          have h1 := HO.out
          rw [List.take_of_length_le (by rw [HN.out]; omega)] at h1
          have HO := Lib.hid h1
          clear h1
          go_wp2_with fail
          go_ret
          exact ⟨_, rfl, HO.out.mono (by omega), HB.out⟩
end Go.Proofs.YthbjgfennclidaaGreat
