/- Bytes appended to a slice that has no room. No walk. -/
import Derived.Test.YteofkbidahefeaaByW
namespace Go.Proofs.Yteofkbidahefeaa
set_option linter.unusedVariables false
set_option linter.unusedSimpArgs false
set_option maxRecDepth 100000
open Go.RowKit

/-- Bytes appended to a slice that is just as long as its room. -/
theorem run_append_clip (ty : TypeId) {w : World} {oa : Option Addr} {sv : Value} {l m : List Nat} (hL : ByW w l (.slice oa l.length l.length)) (hM : ByW w m sv) (hn : l.length + m.length ≤ 140737488355328) :
    ∃ v' w', (Builtin.append_ #[26, 26] ty #[.slice oa l.length l.length, sv]).run Try.prog w = .ok v' w' ∧ ByW w' (l ++ m) v' ∧ Below w.heap.size w w' := by
  obtain ⟨ob, cb, b2, o2, rfl, hM⟩ := hM
  obtain ⟨j0, hj, hy0, hy1, hy2⟩ := info_parts info_byte
  by_cases h0 : m.length = 0
  · have e : m = [] := List.length_eq_zero_iff.1 h0
    subst e
    refine ⟨.slice oa l.length l.length, w, ?_, by simpa using hL, Below.refl _ _⟩
    have hf : (Builtin.firstCells j0.size 0 (.slice ob 0 cb)).run Try.prog w = .ok #[] w := by
      cases ob with
      | none => exact run_firstCells_none w _ _ _ _
      | some a => exact run_firstCells_some w j0.size 0 a 0 cb [] (by simp) (fun j v h => by simp at h)
    have hs : ∀ a : Addr, (storeCells a []).run Try.prog w = .ok () w := fun a => by simp [storeCells]
    cases oa with
    | none => simp [Builtin.append_, run_underlying Try.underlying26, sizeOf, typeInfo, hj, Builtin.lenOf, hf, Result.andThen]
    | some a => simp [Builtin.append_, run_underlying Try.underlying26, sizeOf, typeInfo, hj, Builtin.lenOf, hf, hs, Result.andThen]
  · obtain ⟨rfl, _⟩ := hM.at0 (by omega)
    have hnews : ∀ j u, (byC m)[j]? = some u → w.cell? ((⟨b2, o2, none⟩ : Addr).add j) = some u := by
      intro j u hu
      simp only [byC, List.getElem?_map, Option.map_eq_some_iff] at hu
      obtain ⟨n, hn, rfl⟩ := hu
      rw [addB]; exact hM.cell j n hn
    have hok : ∀ n ∈ l ++ m, n < 256 := by
      intro n hn
      rcases List.mem_append.1 hn with h | h
      · exact hL.ok n h
      · exact hM.ok n h
    have own : OwnB (w.drew.alloc (.cells ((byC l).toArray ++ (byC m).toArray ++ Builtin.zeroCells (Value.int .u8 0).cells (grownCap w (l.length + m.length) l.length 5 - (l.length + m.length))) 5)) w.heap.size (l ++ m) (.slice (some ⟨w.heap.size, 0, none⟩) (l.length + m.length) (grownCap w (l.length + m.length) l.length 5)) := by
      have hge := grownCap_ge w (l.length + m.length) l.length 5
      have hcm := grownCap_le_maxLen w (l.length + m.length) l.length 5 (by unfold maxLen; omega)
      unfold OwnB
      rw [List.length_append]
      refine ⟨by simp [byC], .inr ⟨w.heap.size, _, _, rfl, Nat.le_refl _, heap_alloc_new w.drew _, hge, hcm, ?_, ?_⟩⟩
      · have hz1 : (Value.int IntKind.u8 0).cells.size = 1 := rfl
        simp only [Array.size_append, List.size_toArray, size_zeroCells, hz1, byC, List.length_map]
        omega
      · have e : (byC (l ++ m)).length = (l.length + m.length) * 1 := by simp [byC]
        rw [← e]
        simp only [Array.toList_append, byC, List.map_append]
        exact List.take_left
    cases oa with
    | none =>
      have e : l = [] := by
        obtain ⟨oa', cap', b, o, e, h⟩ := hL
        rcases Nat.eq_zero_or_pos l.length with h0 | h0
        · exact List.length_eq_zero_iff.1 h0
        · have := (h.at0 h0).1
          rw [this] at e; cases e
      subst e
      have hr := run_append_nil (P := Try.prog) w 26 ty 5 j0 _ Try.underlying26 hj hy0 ⟨b2, o2, none⟩ m.length cb (byC m) (by simp [byC, hy1]) hnews (by omega) (by simp only [List.length_nil] at hn; omega) (by rw [hy2]; simp only [List.length_nil] at hn; omega)
      refine ⟨_, _, hr, ?_, (Below.refl _ _).drew.alloc (Nat.le_refl _) _⟩
      have := own.by hok
      simp only [List.length_nil, Nat.zero_add, byC, List.map_nil, Array.empty_append] at this
      exact this
    | some a =>
      have holds : ∀ j u, (byC l)[j]? = some u → w.cell? (a.add j) = some u := by
        intro j u hu
        simp only [byC, List.getElem?_map, Option.map_eq_some_iff] at hu
        obtain ⟨n, hn, rfl⟩ := hu
        obtain ⟨oa', cap', b, o, e, h⟩ := hL
        obtain ⟨rfl, _⟩ := h.at0 (by have := posB hn; omega)
        cases e
        rw [addB]; exact h.cell j n hn
      have hr := run_append_grow (P := Try.prog) w 26 ty 5 j0 _ Try.underlying26 hj hy0 a l.length l.length (byC l) (by simp [byC, hy1]) holds ⟨b2, o2, none⟩ m.length cb (byC m) (by simp [byC, hy1]) hnews (by omega) (by omega) (growslice_fits (by omega) (by rw [hy2]; omega))
      exact ⟨_, _, hr, own.by hok, (Below.refl _ _).drew.alloc (Nat.le_refl _) _⟩

end Go.Proofs.Yteofkbidahefeaa
