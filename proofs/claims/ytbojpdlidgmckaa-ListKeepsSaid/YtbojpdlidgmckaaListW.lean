/- Lists of items: what the laws' walks carry. No walk. -/
import Derived.Test.YtbojpdlidgmckaaListM
namespace Go.Proofs.Ytbojpdlidgmckaa
set_option linter.unusedVariables false
set_option linter.unusedSimpArgs false
open Go.RowKit

theorem Row.val {sz : Nat} {f : Itm → List Value} {w : World} {l : List Itm} {v : Value} (h : Row sz f w l v) : ∃ oa cap, v = .slice oa l.length cap := by
  obtain ⟨oa, cap, _, _, e, _⟩ := h
  exact ⟨oa, cap, e⟩
theorem Row.alloc {sz : Nat} {f : Itm → List Value} {w : World} {l : List Itm} {v : Value} (h : Row sz f w l v) (o : Obj) : Row sz f (w.alloc o) l v := h.later ((Below.refl _ _).alloc (Nat.le_refl _) _)
theorem Row.drew {sz : Nat} {f : Itm → List Value} {w : World} {l : List Itm} {v : Value} (h : Row sz f w l v) : Row sz f w.drew l v := h.later (Below.refl _ _).drew
theorem Row.oks {sz : Nat} {f : Itm → List Value} {w : World} {l : List Itm} {v : Value} (h : Row sz f w l v) : ∀ i ∈ l, i.id.size ≤ maxLen ∧ i.kd.size ≤ maxLen := by
  obtain ⟨_, _, _, _, _, h⟩ := h
  exact h.ok
abbrev rA (i : Itm) : Array Value := #[.string i.id, .int .i64 i.r, .int .i64 i.c, .int .i64 i.st, .string i.kd, .int .i64 i.num, .float .f64 i.x, .float .f64 i.y, .bool i.d]
abbrev iA (i : Itm) : Array Value := #[.string i.id, .int .i64 i.r, .int .i64 i.c, .int .i64 i.st, .string i.kd, .int .i64 i.num, .complex .f64 i.x i.y, .bool i.d]
/-- A row of one plain row, newly made. -/
theorem rowR_one (w : World) (z : Itm) (t : TypeId) (hz : z.id.size ≤ maxLen ∧ z.kd.size ≤ maxLen) : Row 9 rc (w.alloc (.cells (rA z) t)) [z] (.slice (some ⟨w.heap.size, 0, none⟩) 1 1) := by
  refine ⟨_, 1, w.heap.size, 0, rfl, Nat.le_refl _, by decide, fun _ => ⟨rfl, by simp⟩, fun k i hk j u hu => ?_, fun i hi => by simp at hi; subst hi; exact hz⟩
  match k, hk with
  | 0, hk =>
    simp at hk; subst hk
    have := (Has.new w (rA z) t).cell j
    rw [Nat.zero_mul, Nat.zero_add, this]
    simpa using hu
theorem row_oneI (w : World) (z : Itm) (t : TypeId) (hz : z.id.size ≤ maxLen ∧ z.kd.size ≤ maxLen) : Row 8 ic (w.alloc (.cells (iA z) t)) [z] (.slice (some ⟨w.heap.size, 0, none⟩) 1 1) := by
  refine ⟨_, 1, w.heap.size, 0, rfl, Nat.le_refl _, by decide, fun _ => ⟨rfl, by simp⟩, fun k i hk j u hu => ?_, fun i hi => by simp at hi; subst hi; exact hz⟩
  match k, hk with
  | 0, hk =>
    simp at hk; subst hk
    have := (Has.new w (iA z) t).cell j
    rw [Nat.zero_mul, Nat.zero_add, this]
    simpa using hu
theorem row_oneOf {w : World} {l : List Itm} {v : Value} (_ : Row 9 rc w l v) (z : Itm) (t : TypeId) (hz : z.id.size ≤ maxLen ∧ z.kd.size ≤ maxLen) : Row 9 rc (w.alloc (.cells (rA z) t)) [z] (.slice (some ⟨w.heap.size, 0, none⟩) 1 1) := rowR_one w z t hz
def mayLB (l : List Itm) : Bool := l.all mayT && risesB l
theorem sameL_self {f : Itm → Itm → Bool} : ∀ {l : List Itm}, (∀ i ∈ l, f i i = true) → sameL f l l = true
  | [], _ => rfl
  | a :: l, h => by
    rw [sameL, h a (by simp), sameL_self fun i hi => h i (by simp [hi])]; rfl
theorem zero_same : sameT Itm.zero Itm.zero = true := sameT_real (by decide) (by decide)
theorem real_same {i : Itm} (h : realB i = true) : sameT i i = true := by
  unfold realB at h
  rw [Bool.and_eq_true] at h
  exact sameT_real h.1 h.2
theorem get_real {l : List Itm} (h : ∀ i ∈ l, realB i = true) (id : ByteArray) : sameT (getI l id).1 (getI l id).1 = true := by
  rcases get_cases l id with ⟨i, hi, _, e⟩ | ⟨_, e⟩
  · rw [e]; exact real_same (h i hi)
  · rw [e]; exact zero_same
theorem listMax {l m : List Itm} {f : Itm → Itm → Bool} : (bothI f l m).length ≤ l.length + m.length := by
  unfold bothI
  induction m generalizing l with
  | nil => simp
  | cons y m ih =>
    have := step_len f l y
    have h := ih (l := stepI f l y)
    rw [List.foldl_cons]
    simp only [List.length_cons]; omega
end Go.Proofs.Ytbojpdlidgmckaa
