/- Is what is known little? The law's helper, walked. -/
import Derived.Test.YthhbjgecdhogoaaRefAlike
namespace Go.Proofs.Ythhbjgecdhogoaa
set_option linter.unusedVariables false
set_option linter.unusedSimpArgs false
open Go.RowKit

def knownB (K : Kn) : Bool := decide (K.l.length ≤ 30) && K.l.all fun f => decide (f.ids.length ≤ 60)
def knownI (K : Kn) : Int := if knownB K = true then 1 else 0
theorem known_flat {K : Kn} (h : knownB K = true) : K.l.length ≤ 30 ∧ (flatI K.l).length ≤ 1800 := by
  unfold knownB at h
  rw [Bool.and_eq_true, decide_eq_true_eq, List.all_eq_true] at h
  refine ⟨h.1, ?_⟩
  have : ∀ l : List Fr, (∀ f ∈ l, decide (f.ids.length ≤ 60) = true) → (flatI l).length ≤ l.length * 60 := by
    intro l
    induction l with
    | nil => intro _; simp [flatI]
    | cons f l ih =>
      intro hl
      have h1 := ih fun g hg => hl g (by simp [hg])
      have h2 := hl f (by simp)
      rw [decide_eq_true_eq] at h2
      have e : flatI (f :: l) = f.ids ++ flatI l := rfl
      rw [e, List.length_append, List.length_cons]
      omega
  have h1 := this K.l h.2
  have h2 := h.1
  omega
structure KnS (w : World) (X : Array Value) (wr : World) : Prop where
  o1 : Has wr w.heap.size X
  bel : Below w.heap.size w wr
def KnRel (l : List Fr) (len : Nat) (X : Array Value) (w : World) (iv : Value) (wr : World) : Prop :=
  ∃ k : Nat, k ≤ len ∧ iv = .int .i64 k ∧ Hid (∀ j f, j < k → l[j]? = some f → f.ids.length ≤ 60) ∧ wr = (w.alloc (.cells X 26))

set_option maxRecDepth 100000 in
set_option maxHeartbeats 4000000 in
theorem known_calls (K : Kn) (v : Value) (w : World) (hR : FrW w K.l v) :
    Calls Try.prog 7 #[knV K.star v] w fun e w' => e = .returned (.int .i64 (knownI K)) ∧ Below w.heap.size w w' := by
  obtain ⟨A, l⟩ := K
  simp only at hR ⊢
  obtain ⟨U, oa, cap, b0, o, rfl, hr⟩ := hR
  have HR := Lib.hid hr
  have hcap := hr.len
  have hmax := hr.max
  unfold maxLen at hmax
  clear hr
  have HE := Lib.hid (show knownI ⟨A, l⟩ = if (decide (l.length ≤ 30) && l.all fun f => decide (f.ids.length ≤ 60)) = true then 1 else 0 from rfl)
  generalize knownI ⟨A, l⟩ = res at *
  generalize hn : l.length = len at *
  have HN := Lib.hid hn
  clear hn
  have OA := Lib.hid (Has.new w (knA A (.slice oa len cap)) 26)
  have BE := Lib.hid ((Below.refl w.heap.size w).alloc (Nat.le_refl _) (.cells (knA A (.slice oa len cap)) 26))
  by_cases h30 : 30 < len
  · have E := Lib.hid (show res = 0 by rw [HE.out, if_neg (by simp; omega)])
    go_enter Try.func7, Try.ntmps7
    go_wp2_with fail
    go_ret
    exact ⟨ret_int E.out.symm, BE.out⟩
  go_enter Try.func7, Try.ntmps7
  go_wp2_with fail
  go_loopw [3] (fun iv wr => KnRel l len (knA A (.slice oa len cap)) w iv wr) (fun iv _ => len - (intOf iv).toNat)
  case atStart => exact ⟨0, Nat.zero_le _, rfl, fun j f hj => absurd hj (by omega), rfl⟩
  case round =>
    obtain ⟨k, hk, rfl, HA, rfl⟩ := hrel
    have l1 := OA.out.cell
    have z1 := OA.out.lt
    by_cases hlt : k < len
    · obtain ⟨f, hf⟩ : ∃ f, l[k]? = some f := ⟨_, List.getElem?_eq_getElem (by rw [HN.out]; exact hlt)⟩
      obtain ⟨rfl, hb0⟩ := HR.out.at0 (by rw [HN.out]; omega)
      obtain ⟨c0, _⟩ := fc_cells (w := w) (fun j z hz => HR.out.cell k f hf j z hz)
      obtain ⟨ou, cu, hu⟩ := (HR.out.ids k f hf).val
      rw [hu] at c0
      have HF := Lib.hid hf
      clear hf hu
      generalize hnf : f.ids.length = nf at *
      have HNF := Lib.hid hnf
      clear hnf
      by_cases h60 : 60 < nf
      · have E := Lib.hid (show res = 0 by
          rw [HE.out, if_neg]
          rw [Bool.and_eq_true, List.all_eq_true]
          rintro ⟨_, h⟩
          have := h f (List.mem_of_getElem? HF.out)
          rw [decide_eq_true_eq, HNF.out] at this
          omega)
        go_wp2_with fail
        go_ret
        exact ⟨ret_int E.out.symm, BE.out⟩
      · have HA2 := Lib.hid (show ∀ j g, j < k + 1 → l[j]? = some g → g.ids.length ≤ 60 from fun j g hj hg => by
          by_cases e : j = k
          · subst e; rw [HF.out] at hg; cases hg; rw [HNF.out]; omega
          · exact HA.out j g (by omega) hg)
        go_wp2_with fail
        go_roundw
        case rel => exact ⟨k + 1, by omega, by go_num, HA2, by first | rfl | trivial⟩
        case measure => simp [intOf]; omega
    · have e : len = k := by omega
      subst e
      have E := Lib.hid (show res = 1 by
        rw [HE.out, if_pos]
        rw [Bool.and_eq_true, List.all_eq_true]
        refine ⟨by simp; omega, fun f hf => ?_⟩
        obtain ⟨j, hj, e⟩ := List.mem_iff_getElem.1 hf
        rw [decide_eq_true_eq]
        exact HA.out j f (by have := HN.out; omega) (by rw [List.getElem?_eq_getElem hj, e]))
      go_wp2_with fail
      go_ret
      exact ⟨ret_int E.out.symm, BE.out⟩

end Go.Proofs.Ythhbjgecdhogoaa
