/- What is known: the document's Has, walked. -/
import Derived.Test.YthhbjgecdhogoaaRefKnow1
import Derived.Test.YthhbjgecdhogoaaRefVec
import Derived.Test.YthhbjgecdhogoaaRefAlike
namespace Go.Proofs.Ythhbjgecdhogoaa
set_option linter.unusedVariables false
set_option linter.unusedSimpArgs false
open Go.RowKit

def HkRel (l : List Fr) (id : ByteArray) (r c : Int) (len : Nat) (X Y : Array Value) (w : World) (iv : Value) (wr : World) : Prop :=
  ∃ k : Nat, k ≤ len ∧ iv = .int .i64 k ∧ Hid (∀ j f, j < k → l[j]? = some f → hasFr id r c f = false) ∧ Hid (AlS w X Y wr)

set_option maxRecDepth 100000 in
set_option maxHeartbeats 8000000 in
theorem refHasK_calls (K : Kn) (id : ByteArray) (r c : Int) (v : Value) (w : World) (hR : FrW w K.l v) :
    Calls Try.prog 16 #[knV K.star v, .string id, .agg #[.int .i64 r, .int .i64 c]] w fun e w' => e = .returned (.bool (hasK K id r c)) ∧ Below w.heap.size w w' := by
  obtain ⟨A, l⟩ := K
  simp only at hR ⊢
  obtain ⟨U, oa, cap, b0, o, rfl, hr⟩ := hR
  have HR := Lib.hid hr
  have hcap := hr.len
  have hmax := hr.max
  unfold maxLen at hmax
  clear hr
  have HE := Lib.hid (show hasK ⟨A, l⟩ id r c = (hasV A r c || l.any (hasFr id r c)) from rfl)
  generalize hasK ⟨A, l⟩ id r c = res at *
  generalize hn : l.length = len at *
  have HN := Lib.hid hn
  clear hn
  have I0 : AlS w (knA A (.slice oa len cap)) #[.int .i64 r, .int .i64 c] ((w.alloc (.cells (knA A (.slice oa len cap)) 26)).alloc (.cells #[.int .i64 r, .int .i64 c] 28)) :=
    ⟨(Has.new w _ _).alloc _, (Own.newAt _ _ _ (by simp)).has, ((Below.refl _ _).alloc (Nat.le_refl _) _).alloc (by simp) _⟩
  have HI0 := Lib.hid I0
  clear I0
  have C := Lib.hid (hasVec_calls A r c ((w.alloc (.cells (knA A (.slice oa len cap)) 26)).alloc (.cells #[.int .i64 r, .int .i64 c] 28)))
  cases hq : hasV A r c
  case true =>
    rw [hq] at C
    have E := Lib.hid (show res = true by rw [HE.out, hq]; rfl)
    clear hq
    go_enter Try.func16, Try.ntmps16
    go_wp2_with (go_at_call 36; refine C.out.mono ?_; rintro e w2 ⟨rfl, hb2⟩)
    go_ret
    exact ⟨ret_bool E.out.symm, (HI0.out.later hb2).bel⟩
  rw [hq] at C
  have HE2 := Lib.hid (show res = l.any (hasFr id r c) by rw [HE.out, hq]; rfl)
  clear hq HE
  go_enter Try.func16, Try.ntmps16
  go_wp2_with (go_at_call 36; refine C.out.mono ?_; rintro e w2 ⟨rfl, hb2⟩; have HI2 := Lib.hid (HI0.out.later hb2))
  clear hb2 HI0 C
  go_loopw [7] (fun iv wr => HkRel l id r c len (knA A (.slice oa len cap)) #[.int .i64 r, .int .i64 c] w iv wr) (fun iv _ => len - (intOf iv).toNat)
  case atStart => exact ⟨0, Nat.zero_le _, rfl, fun j f hj => absurd hj (by omega), HI2⟩
  case round =>
    clear HI2
    obtain ⟨k, hk, rfl, HA, HS⟩ := hrel
    have l1 := HS.out.o1.cell
    have z1 := HS.out.o1.lt
    by_cases hlt : k < len
    · obtain ⟨f, hf⟩ : ∃ f, l[k]? = some f := ⟨_, List.getElem?_eq_getElem (by rw [HN.out]; exact hlt)⟩
      obtain ⟨rfl, hb0⟩ := HR.out.at0 (by rw [HN.out]; omega)
      obtain ⟨c0, c1, c2, c3, c4, c5, c6, c7, c8⟩ := fc_cells (w := wr) (fun j z hz => (HS.out.bel.cell (p := ⟨b0, o + k * 9 + j, none⟩) hb0).trans (HR.out.cell k f hf j z hz))
      have htx := (HR.out.ids k f hf).later HS.out.bel (Nat.le_refl _)
      obtain ⟨ou, cu, hu⟩ := htx.val
      rw [hu] at c0 htx
      have m1 := fun dd os => Lib.hid (Calls.regrown_of ((among_calls f.ids id _ (Sort.grow (redrawn wr dd) os) (htx.later (below_regrown _ _ _) (Nat.le_refl _))).mono (fun e w' h => (⟨h.1, by rw [← h.2]; exact Below.refl _ _⟩ : e = .returned (.bool (amongB f.ids id)) ∧ Below _ _ w'))))
      have m2 := fun dd os => Lib.hid (Calls.regrown_of (hasVec_calls f.v r c (Sort.grow (redrawn wr dd) os)))
      have HF := Lib.hid hf
      clear hf hu htx
      have LA := fun dd os q => HS.out.o1.regrown dd os q
      have LB := fun dd os q => HS.out.o2.regrown dd os q
      have r0 := fun dd os => cell_regrown c0 dd os
      have r1 := fun dd os => cell_regrown c1 dd os
      have r2 := fun dd os => cell_regrown c2 dd os
      have r3 := fun dd os => cell_regrown c3 dd os
      have r4 := fun dd os => cell_regrown c4 dd os
      have r5 := fun dd os => cell_regrown c5 dd os
      have r6 := fun dd os => cell_regrown c6 dd os
      have r7 := fun dd os => cell_regrown c7 dd os
      have r8 := fun dd os => cell_regrown c8 dd os
      clear c0 c1 c2 c3 c4 c5 c6 c7 c8
      have k0 : (0 : Int) ≤ (k : Int) := by omega
      have k1 : (k : Int) < (len : Int) := by omega
      have HFR := Lib.hid (show hasFr id r c f = (amongB f.ids id && hasV f.v r c) from rfl)
      have HNX : Hid (hasFr id r c f = false → ∀ j g, j < k + 1 → l[j]? = some g → hasFr id r c g = false) := fun h j g hj hg => by
        by_cases e : j = k
        · subst e; rw [HF.out] at hg; cases hg; exact h
        · exact HA.out j g (by omega) hg
      generalize amongB f.ids id = am at *
      generalize hasV f.v r c = hv at *
      cases am
      · have HN2 := Lib.hid (HNX.out (by rw [HFR.out]; rfl))
        go_wp2_with fail
        refine wp_region_quiet_below (by kernel_rfl) (by kernel_rfl) ?_
        repeat (first | go_big_quiet_step ((first | with_reducible exact (m1 _ _).out | with_reducible exact (m2 _ _).out)) | quiet_step (first | with_reducible exact (m1 _ _).out | with_reducible exact (m2 _ _).out))
        refine wpQuiet_nil ?_
        intro w7 hw'
        have hb' := Lib.hid (regrown_below hw')
        clear hw' m1 m2 LA LB r0 r1 r2 r3 r4 r5 r6 r7 r8
        have HS7 := Lib.hid (HS.out.later hb'.out)
        clear l1
        go_wp2_with fail
        go_roundw
        case rel => exact ⟨k + 1, by omega, by go_num, HN2, HS7⟩
        case measure => simp [intOf]; omega
      · cases hv
        · have HN2 := Lib.hid (HNX.out (by rw [HFR.out]; rfl))
          go_wp2_with fail
          refine wp_region_quiet_below (by kernel_rfl) (by kernel_rfl) ?_
          repeat (first | go_big_quiet_step ((first | with_reducible exact (m1 _ _).out | with_reducible exact (m2 _ _).out)) | quiet_step (first | with_reducible exact (m1 _ _).out | with_reducible exact (m2 _ _).out))
          refine wpQuiet_nil ?_
          intro w7 hw'
          have hb' := Lib.hid (regrown_below hw')
          clear hw' m1 m2 LA LB r0 r1 r2 r3 r4 r5 r6 r7 r8
          have HS7 := Lib.hid (HS.out.later hb'.out)
          clear l1
          go_wp2_with fail
          go_roundw
          case rel => exact ⟨k + 1, by omega, by go_num, HN2, HS7⟩
          case measure => simp [intOf]; omega
        · have E := Lib.hid (show res = true by
            rw [HE2.out, List.any_eq_true]
            exact ⟨f, List.mem_of_getElem? HF.out, by rw [HFR.out]; rfl⟩)
          go_wp2_with fail
          refine wp_region_quiet_below (by kernel_rfl) (by kernel_rfl) ?_
          repeat (first | go_big_quiet_step ((first | with_reducible exact (m1 _ _).out | with_reducible exact (m2 _ _).out)) | quiet_step (first | with_reducible exact (m1 _ _).out | with_reducible exact (m2 _ _).out))
          refine wpQuiet_nil ?_
          intro w7 hw'
          have hb' := Lib.hid (regrown_below hw')
          clear hw' m1 m2 LA LB r0 r1 r2 r3 r4 r5 r6 r7 r8
          clear l1
          go_wp2_with fail
          go_ret
          exact ⟨ret_bool E.out.symm, HS.out.bel.trans (hb'.out.mono HS.out.bel.size)⟩
    · have e : len = k := by omega
      subst e
      have E := Lib.hid (show res = false by
        rw [HE2.out, List.any_eq_false]
        intro f hf
        obtain ⟨j, hj, e⟩ := List.mem_iff_getElem.1 hf
        have := HA.out j f (by have := HN.out; omega) (by rw [List.getElem?_eq_getElem hj, e])
        simp [this])
      go_wp2_with fail
      go_ret
      exact ⟨ret_bool E.out.symm, HS.out.bel⟩

end Go.Proofs.Ythhbjgecdhogoaa
