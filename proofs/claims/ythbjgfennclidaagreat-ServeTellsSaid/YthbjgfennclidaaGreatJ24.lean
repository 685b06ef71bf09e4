/- Joined: RefSt2, KConc. -/
import Derived.Test.YthbjgfennclidaaGreatJ22
import Derived.Test.YthbjgfennclidaaGreatJ13
import Derived.Deep.CutBlock
import Derived.Deep.DeepCutAuto
import Derived.Test.YthbjgfennclidaaGreatJ11
import Derived.Shelf.Spec.SlicesGrow
import Derived.Lib.AppendZeros
/- States: the document's Beyond and stood, walked. -/
namespace Go.Proofs.YthbjgfennclidaaGreat
set_option linter.unusedVariables false
set_option linter.unusedSimpArgs false
set_option maxRecDepth 100000
open Go.RowKit
def AllL {α : Type} (p : α → Bool) (l : List α) (len : Nat) (X : Array Value) (w : World) (iv : Value) (wr : World) : Prop :=
  ∃ k : Nat, k ≤ len ∧ iv = .int .i64 k ∧ Hid (∀ j f, j < k → l[j]? = some f → p f = true) ∧ Hid (MkS w X wr)
theorem allL_next {α : Type} {p : α → Bool} {l : List α} {k : Nat} {f : α} (h : ∀ j f, j < k → l[j]? = some f → p f = true) (hf : l[k]? = some f) (hp : p f = true) : ∀ j f, j < k + 1 → l[j]? = some f → p f = true := by
  intro j g hj hg
  by_cases e : j = k
  · subst e; rw [hf] at hg; cases hg; exact hp
  · exact h j g (by omega) hg
set_option maxRecDepth 100000 in
set_option maxHeartbeats 8000000 in
theorem refBeyond_calls (K : Kn) (r count : Int) (v : Value) (w : World) (hR : FrW w K.l v) :
    Calls Tryz.prog 55 #[knV K.star v, .int .i64 r, .int .i64 count] w fun e w' => e = .returned (.bool (beyS K r count)) ∧ Below w.heap.size w w' := by
  obtain ⟨A, l⟩ := K
  simp only at hR ⊢
  obtain ⟨U, oa, cap, b0, o, rfl, hr⟩ := hR
  have HR := Lib.hid hr
  have hcap := hr.len
  have hmax := hr.max
  unfold maxLen at hmax
  clear hr
  have HE := Lib.hid (show beyS ⟨A, l⟩ r count = (decide (count < cntV A r) || l.any fun q => decide (count < cntV q.v r)) from rfl)
  generalize beyS ⟨A, l⟩ r count = res at *
  generalize hn : l.length = len at *
  have HN := Lib.hid hn
  clear hn
  have HI0 := Lib.hid (show MkS w (knA A (.slice oa len cap)) (w.alloc (.cells (knA A (.slice oa len cap)) 31)) from ⟨Has.new w _ _, (Below.refl _ _).alloc (Nat.le_refl _) _⟩)
  have C := fun w' => Lib.hid (count_calls A r w')
  have hq : ∃ q, q = cntV A r := ⟨_, rfl⟩
  obtain ⟨q, hq⟩ := hq
  rw [← hq] at C HE
  clear hq
  by_cases hlt0 : count < q
  · have E := Lib.hid (show res = true by rw [HE.out, decide_eq_true hlt0]; rfl)
    have g0 : decide (count < q) = true := decide_eq_true hlt0
    clear hlt0
    go_enter Tryz.func55, Tryz.ntmps55
    go_wp2_with (first | (go_at_call 108; refine (C _).out.mono ?_; rintro e w2 ⟨rfl, hb2⟩) | fail)
    go_ret
    exact ⟨ret_bool E.out.symm, (HI0.out.later hb2).bel⟩
  have HE2 := Lib.hid (show res = l.any fun q => decide (count < cntV q.v r) by rw [HE.out, decide_eq_false hlt0]; rfl)
  have g0 : decide (count < q) = false := decide_eq_false hlt0
  clear HE hlt0
  go_enter Tryz.func55, Tryz.ntmps55
  go_wp2_with (first | (go_at_call 108; refine (C _).out.mono ?_; rintro e w2 ⟨rfl, hb2⟩; have HI2 := Lib.hid (HI0.out.later hb2)) | fail)
  clear hb2 HI0 C
  go_loopw [7] (fun iv wr => AllL (fun q => !decide (count < cntV q.v r)) l len (knA A (.slice oa len cap)) w iv wr) (fun iv _ => len - (intOf iv).toNat)
  case atStart => exact ⟨0, Nat.zero_le _, rfl, fun j f hj => absurd hj (by omega), HI2⟩
  case round =>
    clear HI2 g0
    obtain ⟨k, hk, rfl, HA, HS⟩ := hrel
    have l1 := HS.out.o1.cell
    have z1 := HS.out.o1.lt
    by_cases hlt : k < len
    · obtain ⟨f, hf⟩ : ∃ f, l[k]? = some f := ⟨_, List.getElem?_eq_getElem (by rw [HN.out]; exact hlt)⟩
      obtain ⟨rfl, hb0⟩ := HR.out.at0 (by rw [HN.out]; omega)
      obtain ⟨c0, c1, c2, c3, c4, c5, c6, c7, c8⟩ := fc_cells (w := wr) (fun j z hz => (HS.out.bel.cell (p := ⟨b0, o + k * 9 + j, none⟩) hb0).trans (HR.out.cell k f hf j z hz))
      have zb := Nat.lt_of_lt_of_le hb0 HS.out.bel.size
      clear c0
      have C := fun w' => Lib.hid (count_calls f.v r w')
      have HF := Lib.hid hf
      clear hf
      have k0 : (0 : Int) ≤ (k : Int) := by omega
      have k1 : (k : Int) < (len : Int) := by omega
      have hx : ∃ x, x = cntV f.v r := ⟨_, rfl⟩
      obtain ⟨x, hx⟩ := hx
      rw [← hx] at C
      have HX := Lib.hid hx
      clear hx
      by_cases hc : count < x
      · have E := Lib.hid (show res = true by
          rw [HE2.out, List.any_eq_true]
          exact ⟨f, List.mem_of_getElem? HF.out, by rw [← HX.out]; exact decide_eq_true hc⟩)
        have g1 : decide (count < x) = true := decide_eq_true hc
        clear hc
        go_wp2_with (first | (go_at_call 108; refine (C _).out.mono ?_; rintro e w2 ⟨rfl, hb2⟩) | fail)
        go_ret
        exact ⟨ret_bool E.out.symm, (HS.out.later hb2).bel⟩
      · have g1 : decide (count < x) = false := decide_eq_false hc
        have HN2 := Lib.hid (allL_next HA.out HF.out (by rw [← HX.out, g1]; rfl))
        clear hc
        go_wp2_with (first | (go_at_call 108; refine (C _).out.mono ?_; rintro e w2 ⟨rfl, hb2⟩; have HS7 := Lib.hid (HS.out.later hb2); clear hb2) | fail)
        go_roundw
        case rel => exact ⟨k + 1, by omega, by go_num, HN2, HS7⟩
        case measure => simp [intOf]; omega
    · have e : len = k := by omega
      subst e
      have E := Lib.hid (show res = false by
        rw [HE2.out, List.any_eq_false]
        intro f hf
        obtain ⟨j, hj, e⟩ := List.mem_iff_getElem.1 hf
        have := HA.out j f (by have := HN.out; omega) (by rw [List.getElem?_eq_getElem hj, e])
        simpa using this)
      go_wp2_with fail
      go_ret
      exact ⟨ret_bool E.out.symm, HS.out.bel⟩
set_option maxRecDepth 100000 in
set_option maxHeartbeats 8000000 in
theorem refStood_calls (s : St) (fv sv ov kv : Value) (l : List Itm) (v : Value) (want : Bool) (w : World) (hS : StW w s fv sv ov kv) (hR : Row 8 ic w l v) (hf : s.f.size ≤ 1000) :
    Calls Tryz.prog 54 #[stV s fv sv ov kv, v, .bool want] w fun e w' => e = .returned (.bool (stoodB s l want)) ∧ Below w.heap.size w w' := by
  obtain ⟨oa, cap, b, o, rfl, hr⟩ := hR
  have HR := Lib.hid hr
  have hcap := hr.len
  have hmax := hr.max
  unfold maxLen at hmax
  clear hr
  have HE := Lib.hid (show stoodB s l want = l.all (stoodI s want) from rfl)
  generalize stoodB s l want = res at *
  generalize hn : l.length = len at *
  have HN := Lib.hid hn
  clear hn
  have HI0 := Lib.hid (show MkS w (stA s fv sv ov kv) (w.alloc (.cells (stA s fv sv ov kv) 52)) from ⟨Has.new w _ _, (Below.refl _ _).alloc (Nat.le_refl _) _⟩)
  have HW := Lib.hid hS
  have HF0 := Lib.hid hf
  clear hS hf
  go_enter Tryz.func54, Tryz.ntmps54
  go_wp2_with fail
  go_loopw [7] (fun iv wr => AllL (stoodI s want) l len (stA s fv sv ov kv) w iv wr) (fun iv _ => len - (intOf iv).toNat)
  case atStart => exact ⟨0, Nat.zero_le _, rfl, fun j f hj => absurd hj (by omega), HI0⟩
  case round =>
    clear HI0
    obtain ⟨k, hk, rfl, HA, HS⟩ := hrel
    have l1 := HS.out.o1.cell
    have z1 := HS.out.o1.lt
    by_cases hlt : k < len
    · obtain ⟨i, hf⟩ : ∃ f, l[k]? = some f := ⟨_, List.getElem?_eq_getElem (by rw [HN.out]; exact hlt)⟩
      obtain ⟨rfl, hb0⟩ := HR.out.at0 (by rw [HN.out]; omega)
      have HF := Lib.hid hf
      clear hf
      have k0 : (0 : Int) ≤ (k : Int) := by omega
      have k1 : (k : Int) < (len : Int) := by omega
      have hid := (HR.out.ok i (List.mem_of_getElem? HF.out)).1
      have HC := Lib.hid (fun (wx : World) (hb : Below w.heap.size w wx) => ic_cells (w := wx) (fun j z hz => (hb.cell (p := ⟨b, o + k * 8 + j, none⟩) hb0).trans (HR.out.cell k i HF.out j z hz)))
      have HID := Lib.hid hid
      have HB0 := Lib.hid hb0
      clear hid
      obtain ⟨c0, c1, c2, c3, c4, c5, c6, c7⟩ := HC.out wr HS.out.bel
      have LA := fun dd os q => HS.out.o1.regrown dd os q
      have r0 := fun dd os => cell_regrown c0 dd os
      have r1 := fun dd os => cell_regrown c1 dd os
      have r2 := fun dd os => cell_regrown c2 dd os
      have r3 := fun dd os => cell_regrown c3 dd os
      have r4 := fun dd os => cell_regrown c4 dd os
      have r5 := fun dd os => cell_regrown c5 dd os
      have r6 := fun dd os => cell_regrown c6 dd os
      have r7 := fun dd os => cell_regrown c7 dd os
      have m1 := fun dd os => Lib.hid (Calls.regrown_of (hasT_calls i HID.out s.f fv (Sort.grow (redrawn wr dd) os) (((HW.out.lf.later HS.out.bel (Nat.le_refl _))).later (below_regrown wr dd os) (Nat.le_refl _)) HF0.out))
      clear c0 c1 c2 c3 c4 c5 c6 c7
      generalize hq1 : hasT s.f i = x1 at *
      have HQ1 := Lib.hid hq1
      clear hq1
      go_upto_region 4 with fail
      refine wp_region_quiet_below (by kernel_rfl) (by kernel_rfl) ?_
      repeat (first | go_big_quiet_step ((with_reducible exact (m1 _ _).out)) | quiet_step (with_reducible exact (m1 _ _).out))
      refine wpQuiet_nil ?_
      intro w7 hw'
      have hb' := Lib.hid (regrown_below hw')
      clear hw' m1 LA r0 r1 r2 r3 r4 r5 r6 r7 l1
      have HS7 := Lib.hid (HS.out.later hb'.out)
      have zz : w.heap.size < w7.heap.size := HS7.out.o1.lt
      clear hb'
      obtain ⟨c0, c1, c2, c3, c4, c5, c6, c7⟩ := HC.out w7 HS7.out.bel
      have LA := fun dd os q => HS7.out.o1.regrown dd os q
      have r0 := fun dd os => cell_regrown c0 dd os
      have r1 := fun dd os => cell_regrown c1 dd os
      have r2 := fun dd os => cell_regrown c2 dd os
      have m2 := fun dd os => Lib.hid (Calls.regrown_of (refHasK_calls s.k i.id i.r i.c kv (Sort.grow (redrawn w7 dd) os) (((HW.out.lk.later HS7.out.bel (Nat.le_refl _))).later (below_regrown w7 dd os) (Nat.le_refl _))))
      clear c0 c1 c2 c3 c4 c5 c6 c7
      generalize hq2 : hasK s.k i.id i.r i.c = x2 at *
      have HQ2 := Lib.hid hq2
      clear hq2
      go_upto_region 5 with fail
      refine wp_region_quiet_below (by kernel_rfl) (by kernel_rfl) ?_
      repeat (first | go_big_quiet_step ((with_reducible exact (m2 _ _).out)) | quiet_step (with_reducible exact (m2 _ _).out))
      refine wpQuiet_nil ?_
      intro w8 hw'
      have hb' := Lib.hid (regrown_below hw')
      clear hw' m2 LA r0 r1 r2
      have HS8 := Lib.hid (HS7.out.later hb'.out)
      clear hb'
      obtain ⟨c0, c1, c2, c3, c4, c5, c6, c7⟩ := HC.out w8 HS8.out.bel
      have LA := fun dd os q => HS8.out.o1.regrown dd os q
      have r3 := fun dd os => cell_regrown c3 dd os
      have z8 := HS8.out.o1.lt
      clear c0 c1 c2 c3 c4 c5 c6 c7 z1 zz
      have HI := Lib.hid (show stoodI s want i = ((x1 == want) && (x2 && decide (i.st ≤ s.clock))) by unfold stoodI; rw [HQ1.out, HQ2.out])
      cases ht : decide (s.clock < i.st)
      all_goals
        cases x1
        all_goals
          cases x2
          all_goals
            cases want
            all_goals
              go_upto_region 6 with fail
              refine wp_region_quiet_below (by kernel_rfl) (by kernel_rfl) ?_
              repeat (first | go_big_quiet_step (fail) | quiet_step (fail))
              refine wpQuiet_nil ?_
              intro w9 hw'
              have hb' := Lib.hid (regrown_below hw')
              clear hw' LA r3
              have HS9 := Lib.hid (HS8.out.later hb'.out)
              clear hb'
              go_wp2_with fail
              first
                | (go_roundw
                   case rel => exact ⟨k + 1, by omega, by go_num, Lib.hid (allL_next HA.out HF.out (by rw [HI.out]; simp at ht ⊢; omega)), HS9⟩
                   case measure => simp [intOf]; omega)
                | (go_ret
                   exact ⟨ret_bool (by
                     rw [HE.out]
                     refine (all_not_of HF.out ?_).symm
                     rw [HI.out]
                     simp at ht ⊢ <;> omega), HS9.out.bel⟩)
    · have e : len = k := by omega
      subst e
      have E := Lib.hid (show res = true by
        rw [HE.out]
        exact all_of fun j f hj hf => HA.out j f (by have := HN.out; omega) hf)
      go_wp2_with fail
      go_ret
      exact ⟨ret_bool E.out.symm, HS.out.bel⟩
end Go.Proofs.YthbjgfennclidaaGreat
/- Pieces of two lists, one behind the other: slices.Concat, walked over the library's contract of slices.Grow, laid at this program. -/
namespace Go.Proofs.YthbjgfennclidaaGreat
set_option linter.unusedVariables false
set_option linter.unusedSimpArgs false
set_option maxRecDepth 100000
open Go.RowKit
theorem storeNone (a : Addr) (w : World) : (storeCells a []).run Tryz.prog w = .ok () w := by simp [storeCells]
theorem frCs_news {w : World} {l : List Fr} {U : Nat → Value} {oa : Option Addr} {cap b o : Nat} (h : FrAt w l U oa cap b o) : ∀ j u, (frCs U 0 l)[j]? = some u → w.cell? ((⟨b, o, none⟩ : Addr).add j) = some u := by
  intro j u hu
  have hj : j < (frCs U 0 l).length := (List.getElem?_eq_some_iff.1 hu).1
  rw [frCs_len] at hj
  obtain ⟨i, r, hr, rfl⟩ : ∃ i r, r < 9 ∧ j = i * 9 + r := ⟨j / 9, j % 9, Nat.mod_lt _ (by omega), by omega⟩
  obtain ⟨f, hf⟩ : ∃ f, l[i]? = some f := ⟨_, List.getElem?_eq_getElem (by omega)⟩
  rw [frCs_get U 0 l i f hf r hr, Nat.zero_add] at hu
  have := h.cell i f hf r u hu
  rw [← this]
  by_cases e : i * 9 + r = 0
  · obtain ⟨rfl, rfl⟩ : i = 0 ∧ r = 0 := by omega
    simp [Addr.add]
  · simp only [Addr.add]
    first | rw [if_neg e, Nat.add_assoc] | (rw [Nat.add_assoc]; split <;> first | rfl | omega) | (simp [Nat.add_assoc]; intro h1 h2; omega)
theorem kfrCs_one {w : World} {l : List Fr} {U : Nat → Value} {oa : Option Addr} {cap b o : Nat} (h : FrAt w l U oa cap b o) : ∀ u ∈ frCs U 0 l, u.oneCell' = true := by
  intro u hu
  obtain ⟨j, hj⟩ := List.getElem?_of_mem hu
  have hlt : j < (frCs U 0 l).length := (List.getElem?_eq_some_iff.1 hj).1
  rw [frCs_len] at hlt
  obtain ⟨i, r, hr, rfl⟩ : ∃ i r, r < 9 ∧ j = i * 9 + r := ⟨j / 9, j % 9, Nat.mod_lt _ (by omega), by omega⟩
  obtain ⟨f, hf⟩ : ∃ f, l[i]? = some f := ⟨_, List.getElem?_eq_getElem (by omega)⟩
  rw [frCs_get U 0 l i f hf r hr, Nat.zero_add] at hj
  obtain ⟨oq, cq, e⟩ := (h.ids i f hf).val
  exact oneF f (by rw [e]; rfl) u (List.mem_of_getElem? hj)
theorem rowFr {w : World} {base : Nat} {l : List Fr} {U : Nat → Value} {v : Value} (h : w.ownsRow base 125 9 v l.length (frCs U 0 l)) (hi : ∀ k f, l[k]? = some f → TxW w f.ids (U k)) : FrW w l v := by
  obtain ⟨oa, cap, g, e, h1, h2, hg⟩ := row_slice h
  subst e
  refine ⟨U, oa, cap, g, 0, rfl, h1, h2, fun h0 => ⟨(hg h0).1, (hg h0).2.2⟩, fun k f hf j u hu => ?_, hi⟩
  obtain ⟨rfl, _⟩ := hg (by have := posA hf; omega)
  have hj : j < 9 := (List.getElem?_eq_some_iff.1 hu).1
  have hk := posA hf
  rw [Nat.zero_add, h.cellAt (k * 9 + j) (by omega), frCs_get _ _ _ _ _ hf _ hj, Nat.zero_add]
  exact hu
end Go.Proofs.YthbjgfennclidaaGreat
