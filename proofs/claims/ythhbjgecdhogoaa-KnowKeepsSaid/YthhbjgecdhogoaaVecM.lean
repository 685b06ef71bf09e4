/- Counts of replicas: eight whole numbers; plain mathematics, and how they lie. No walk. -/
import Derived.Test.YthhbjgecdhogoaaKit
import Derived.Test.YthhbjgecdhogoaaOwn
namespace Go.Proofs.Ythhbjgecdhogoaa
set_option linter.unusedVariables false
set_option linter.unusedSimpArgs false
open Go.RowKit

abbrev arr8 (A : Nat → Int) : Array Value := #[.int .i64 (A 0), .int .i64 (A 1), .int .i64 (A 2), .int .i64 (A 3), .int .i64 (A 4), .int .i64 (A 5), .int .i64 (A 6), .int .i64 (A 7)]
abbrev vecV (A : Nat → Int) : Value := .agg #[.int .i64 (A 0), .int .i64 (A 1), .int .i64 (A 2), .int .i64 (A 3), .int .i64 (A 4), .int .i64 (A 5), .int .i64 (A 6), .int .i64 (A 7)]
theorem arr_get (A : Nat → Int) {k : Nat} (h : k < 8) : (arr8 A)[k]? = some (.int .i64 (A k)) := by
  match k, h with
  | 0, _ | 1, _ | 2, _ | 3, _ | 4, _ | 5, _ | 6, _ | 7, _ => rfl
theorem arr_set (A : Nat → Int) {k : Nat} (h : k < 8) (v : Int) : (arr8 A).setIfInBounds k (.int .i64 v) = arr8 (fun j => if j = k then v else A j) := by
  match k, h with
  | 0, _ | 1, _ | 2, _ | 3, _ | 4, _ | 5, _ | 6, _ | 7, _ => simp [arr8]
theorem arr_congr {A B : Nat → Int} (h : ∀ j, j < 8 → A j = B j) : arr8 A = arr8 B := by
  unfold arr8
  rw [h 0 (by omega), h 1 (by omega), h 2 (by omega), h 3 (by omega), h 4 (by omega), h 5 (by omega), h 6 (by omega), h 7 (by omega)]
theorem vec_congr {A B : Nat → Int} (h : ∀ j, j < 8 → A j = B j) : vecV A = vecV B := congrArg Value.agg (arr_congr h)

def maxV (A B : Nat → Int) (k : Nat) : Int := if A k < B k then B k else A k
def inV (A B : Nat → Int) : Bool := (List.range 8).all fun k => decide (A k ≤ B k)
def mayV (A : Nat → Int) : Bool := (List.range 8).all fun k => (decide (0 ≤ A k) && decide (A k ≤ 1000))
def cntV (A : Nat → Int) (r : Int) : Int := if 1 ≤ r ∧ r ≤ 8 then A (r - 1).toNat else 0
def hasV (A : Nat → Int) (r c : Int) : Bool := decide (1 ≤ c) && decide (c ≤ cntV A r)
def withV (A : Nat → Int) (r c : Int) (k : Nat) : Int := if k = (r - 1).toNat ∧ 1 ≤ r ∧ r ≤ 8 ∧ A k < c then c else A k
theorem inV_iff {A B : Nat → Int} : inV A B = true ↔ ∀ k, k < 8 → A k ≤ B k := by simp [inV, List.all_eq_true]
theorem inV_false {A B : Nat → Int} {k : Nat} (hk : k < 8) (h : B k < A k) : inV A B = false := by
  cases e : inV A B with
  | false => rfl
  | true => have := inV_iff.1 e k hk; omega
theorem mayV_iff {A : Nat → Int} : mayV A = true ↔ ∀ k, k < 8 → 0 ≤ A k ∧ A k ≤ 1000 := by simp [mayV, List.all_eq_true]
theorem mayV_false {A : Nat → Int} {k : Nat} (hk : k < 8) (h : A k < 0 ∨ 1000 < A k) : mayV A = false := by
  cases e : mayV A with
  | false => rfl
  | true => have := mayV_iff.1 e k hk; omega

/-! ### What follows -/
theorem cnt_max (A B : Nat → Int) (r : Int) : cntV (maxV A B) r = max (cntV A r) (cntV B r) := by
  unfold cntV maxV
  split
  · split <;> omega
  · simp
theorem has_max (A B : Nat → Int) (r c : Int) : hasV (maxV A B) r c = (hasV A r c || hasV B r c) := by
  unfold hasV
  rw [cnt_max, Bool.eq_iff_iff]
  simp only [Bool.and_eq_true, Bool.or_eq_true, decide_eq_true_eq]
  omega
theorem max_comm8 (A B : Nat → Int) (k : Nat) : maxV A B k = maxV B A k := by unfold maxV; split <;> split <;> omega
theorem in_max_l (A B : Nat → Int) : inV A (maxV A B) = true := inV_iff.2 fun k _ => by unfold maxV; split <;> omega
theorem in_max_r (A B : Nat → Int) : inV B (maxV A B) = true := inV_iff.2 fun k _ => by unfold maxV; split <;> omega
theorem in_least {A B C : Nat → Int} (h1 : inV A C = true) (h2 : inV B C = true) : inV (maxV A B) C = true :=
  inV_iff.2 fun k hk => by have := inV_iff.1 h1 k hk; have := inV_iff.1 h2 k hk; unfold maxV; split <;> omega
theorem in_has {A B : Nat → Int} {r c : Int} (h : inV A B = true) (h1 : hasV A r c = true) : hasV B r c = true := by
  unfold hasV cntV at *
  simp only [Bool.and_eq_true, decide_eq_true_eq] at *
  split at h1
  · rename_i hr
    have := inV_iff.1 h (r - 1).toNat (by omega)
    rw [if_pos hr]; omega
  · omega
theorem with_has (A : Nat → Int) (r c : Int) : hasV (withV A r c) r c = (decide (1 ≤ r) && (decide (r ≤ 8) && decide (1 ≤ c))) := by
  unfold hasV cntV
  rw [Bool.eq_iff_iff]
  simp only [Bool.and_eq_true, decide_eq_true_eq]
  constructor
  · rintro ⟨h1, h2⟩
    split at h2
    · rename_i hr; exact ⟨hr.1, hr.2, h1⟩
    · omega
  · rintro ⟨h1, h2, h3⟩
    refine ⟨h3, ?_⟩
    rw [if_pos ⟨h1, h2⟩]
    unfold withV
    split
    · omega
    · rename_i hn; omega
theorem in_with (A : Nat → Int) (r c : Int) : inV A (withV A r c) = true := inV_iff.2 fun k _ => by unfold withV; split <;> omega
theorem with_with (A : Nat → Int) (r c : Int) (k : Nat) : withV (withV A r c) r c k = withV A r c k := by
  unfold withV
  split
  · rename_i h
    split
    · omega
    · rfl
  · rfl

end Go.Proofs.Ythhbjgecdhogoaa
