/- What is known: the document's Join, walked. -/
import Derived.Test.YthhbjgecdhogoaaRefPlainK
import Derived.Deep.RegionHeld3
namespace Go.Proofs.Ythhbjgecdhogoaa
set_option linter.unusedVariables false
set_option linter.unusedSimpArgs false
open Go.RowKit

theorem row_fr {w : World} {base : Nat} {l : List Fr} {U : Nat → Value} {v : Value} (h : w.ownsRow base 40 9 v l.length (frCs U 0 l)) (ht : ∀ k f, l[k]? = some f → TxW w f.ids (U k)) : FrW w l v := by
  obtain ⟨oa, cap, g, e, h1, h2, hg⟩ := row_slice h
  subst e
  refine ⟨U, oa, cap, g, 0, rfl, h1, h2, fun h0 => ⟨(hg h0).1, (hg h0).2.2⟩, fun k f hf j u hu => ?_, ht⟩
  have hk := posA hf
  obtain ⟨rfl, _⟩ := hg (by omega)
  have hj : j < 9 := (List.getElem?_eq_some_iff.1 hu).1
  rw [Nat.zero_add, h.cellAt (k * 9 + j) (by omega), frCs_get _ _ _ _ _ hf _ hj, Nat.zero_add]
  exact hu
theorem fr_news {w : World} {l : List Fr} {U : Nat → Value} {oa : Option Addr} {cap b o : Nat} (h : FrAt w l U oa cap b o) : ∀ j u, (frCs U 0 l)[j]? = some u → w.cell? ((⟨b, o, none⟩ : Addr).add j) = some u := by
  intro j u hu
  have hadd : (⟨b, o, none⟩ : Addr).add j = ⟨b, o + j, none⟩ := by unfold Addr.add; split <;> simp_all
  rw [hadd]
  have hj := (List.getElem?_eq_some_iff.1 hu).1
  rw [frCs_len] at hj
  have hi : j / 9 < l.length := by omega
  have hp : l[j / 9]? = some l[j / 9] := List.getElem?_eq_getElem hi
  have e : j = j / 9 * 9 + j % 9 := by omega
  rw [e, frCs_get _ _ _ _ _ hp _ (by omega), Nat.zero_add] at hu
  have := h.cell _ _ hp _ _ hu
  rw [show o + j / 9 * 9 + j % 9 = o + j by omega] at this
  exact this
theorem frCs_one {U : Nat → Value} {s : Nat} {l : List Fr} (h : ∀ i f, l[i]? = some f → (U (s + i)).oneCell' = true) : ∀ u ∈ frCs U s l, u.oneCell' = true := by
  induction l generalizing s with
  | nil => simp [frCs]
  | cons p l ih =>
    intro u hu
    simp only [frCs, List.mem_append] at hu
    rcases hu with hu | hu
    · exact oneF p (h 0 p rfl) u hu
    · exact ih (s := s + 1) (fun i q hq => by have := h (i + 1) q (by simpa using hq); rwa [show s + 1 + i = s + (i + 1) by omega]) u hu
theorem fr_one {w : World} {l : List Fr} {U : Nat → Value} {oa : Option Addr} {cap b o : Nat} (h : FrAt w l U oa cap b o) : ∀ u ∈ frCs U 0 l, u.oneCell' = true :=
  frCs_one fun i f hf => by
    obtain ⟨ou, cu, e⟩ := (h.ids i f hf).val
    rw [Nat.zero_add, e]; rfl
def glueU (n : Nat) (U V : Nat → Value) : Nat → Value := fun i => if i < n then U i else V (i - n)
theorem frCs_glue (U V : Nat → Value) (l m : List Fr) : frCs U 0 l ++ frCs V 0 m = frCs (glueU l.length U V) 0 (l ++ m) := by
  rw [frCs_app]
  congr 1
  · exact frCs_congr fun i hi => by simp [glueU, hi]
  · have : ∀ (m : List Fr) (s : Nat), frCs V s m = frCs (glueU l.length U V) (l.length + s) m := by
      intro m
      induction m with
      | nil => intro s; rfl
      | cons p m ih =>
        intro s
        rw [frCs, frCs, ih (s + 1), show l.length + s + 1 = l.length + (s + 1) by omega]
        have e : glueU l.length U V (l.length + s) = V s := by unfold glueU; rw [if_neg (by omega), show l.length + s - l.length = s by omega]
        rw [e]
    have := this m 0
    rw [Nat.add_zero] at this
    rw [Nat.zero_add]
    exact this
/-- Two rows, one behind the other. -/
theorem glue_fr {w : World} {base : Nat} {l m : List Fr} {U V : Nat → Value} {v : Value} (h : w.ownsRow base 40 9 v (l.length + m.length) (frCs U 0 l ++ frCs V 0 m)) (h1 : ∀ k f, l[k]? = some f → TxW w f.ids (U k)) (h2 : ∀ k f, m[k]? = some f → TxW w f.ids (V k)) : FrW w (l ++ m) v := by
  rw [frCs_glue] at h
  refine row_fr (U := glueU l.length U V) (by rw [List.length_append]; exact h) fun k f hf => ?_
  by_cases hk : k < l.length
  · rw [List.getElem?_append_left hk] at hf
    have : glueU l.length U V k = U k := by unfold glueU; rw [if_pos hk]
    rw [this]; exact h1 k f hf
  · rw [List.getElem?_append_right (by omega)] at hf
    have : glueU l.length U V k = V (k - l.length) := by unfold glueU; rw [if_neg hk]
    rw [this]; exact h2 _ f hf

theorem row_cap {w : World} {base n size cap : Nat} {oa : Option Addr} {e : TypeId} {xs : List Value} (h : w.ownsRow base e size (.slice oa n cap) n xs) : n ≤ cap := by
  obtain ⟨oa', cap', g, e, h1, _⟩ := row_slice h
  cases e; exact h1
theorem fr_nil (w : World) (oa : Option Addr) (cap : Nat) (h : cap ≤ maxLen) : FrW w [] (.slice oa 0 cap) :=
  ⟨fun _ => .nilFunc, oa, cap, 0, 0, rfl, ⟨Nat.zero_le _, h, fun h => absurd h (by simp), fun k f hf => by simp at hf, fun k f hf => by simp at hf⟩⟩

set_option maxRecDepth 100000 in
set_option maxHeartbeats 8000000 in
theorem refJoin_calls (a b : Kn) (v v' : Value) (w : World) (hR : FrW w a.l v) (hM : FrW w b.l v') (hl1 : (flatI (a.l ++ b.l)).length ≤ 10000) (hl2 : a.l.length + b.l.length ≤ 10000) :
    Calls Try.prog 20 #[knV a.star v, knV b.star v'] w fun e w' => ∃ v', e = .returned (knV (maxV a.star b.star) v') ∧ FrFresh w' w.heap.size (plainB (joinK a b)).l v' ∧ Below w.heap.size w w' := by
  obtain ⟨A, l⟩ := a
  obtain ⟨B, m⟩ := b
  simp only at hR hM hl1 hl2 ⊢
  have PJ := fun v w' h => Lib.hid (show Calls Try.prog 10 #[knV (maxV A B) v] w' (fun e w'' => ∃ v', e = .returned (knV (maxV A B) v') ∧ FrFresh w'' w'.heap.size (plainB (joinK ⟨A, l⟩ ⟨B, m⟩)).l v' ∧ Below w'.heap.size w' w'') from refPlainK_calls (joinK ⟨A, l⟩ ⟨B, m⟩) v w' h hl1)
  generalize (plainB (joinK ⟨A, l⟩ ⟨B, m⟩)).l = res at *
  obtain ⟨U, oa, cap, b0, o, rfl, hr⟩ := hR
  obtain ⟨U', oa', cap', b0', o', rfl, hr'⟩ := hM
  have HR := Lib.hid hr
  have HR' := Lib.hid hr'
  have hcap := hr.len
  have hmax := hr.max
  have hcap' := hr'.len
  have hmax' := hr'.max
  unfold maxLen at hmax hmax'
  clear hr hr' hl1
  have HL := Lib.hid (frCs_len U 0 l)
  have HL' := Lib.hid (frCs_len U' 0 m)
  have X := fun w' => Lib.hid (refMax_calls A B w')
  generalize hn : l.length = len at *
  have HN := Lib.hid hn
  generalize hn' : m.length = len' at *
  have HN' := Lib.hid hn'
  clear hn hn'
  have O1 := Lib.hid (((Own.new w (knA A (.slice oa len cap)) 26).alloc (.cells (knA B (.slice oa' len' cap')) 26)).alloc (.cells (knA zeroV (.slice none 0 0)) 26))
  have O2 := Lib.hid ((Own.newAt (w.alloc (.cells (knA A (.slice oa len cap)) 26)) (knA B (.slice oa' len' cap')) 26 (b := w.heap.size + 1) (by simp)).alloc (.cells (knA zeroV (.slice none 0 0)) 26))
  have O3 := Lib.hid (Own.newAt ((w.alloc (.cells (knA A (.slice oa len cap)) 26)).alloc (.cells (knA B (.slice oa' len' cap')) 26)) (knA zeroV (.slice none 0 0)) 26 (b := w.heap.size + 1 + 1) (by simp))
  have BEL := Lib.hid ((((Below.refl w.heap.size w).alloc (Nat.le_refl _) (.cells (knA A (.slice oa len cap)) 26)).alloc (by simp) (.cells (knA B (.slice oa' len' cap')) 26)).alloc (by simp; omega) (.cells (knA zeroV (.slice none 0 0)) 26))
  obtain ⟨j0, hj, hy0, hy1, hy2⟩ := info_parts info_frag
  go_enter Try.func20, Try.ntmps20
  go_upto_region 2 with (go_at_call 44; refine (X _).out.mono ?_; rintro e w3 ⟨rfl, hb3⟩; replace O1 := Lib.hid ((O1.out.later hb3).alloc (.cells #[.int .i64 (maxV A B 0), .int .i64 (maxV A B 1), .int .i64 (maxV A B 2), .int .i64 (maxV A B 3), .int .i64 (maxV A B 4), .int .i64 (maxV A B 5), .int .i64 (maxV A B 6), .int .i64 (maxV A B 7), .slice none 0 0] 26)); replace O2 := Lib.hid ((O2.out.later hb3).alloc (.cells #[.int .i64 (maxV A B 0), .int .i64 (maxV A B 1), .int .i64 (maxV A B 2), .int .i64 (maxV A B 3), .int .i64 (maxV A B 4), .int .i64 (maxV A B 5), .int .i64 (maxV A B 6), .int .i64 (maxV A B 7), .slice none 0 0] 26)); replace O3 := Lib.hid ((O3.out.later hb3).alloc (.cells #[.int .i64 (maxV A B 0), .int .i64 (maxV A B 1), .int .i64 (maxV A B 2), .int .i64 (maxV A B 3), .int .i64 (maxV A B 4), .int .i64 (maxV A B 5), .int .i64 (maxV A B 6), .int .i64 (maxV A B 7), .slice none 0 0] 26)); replace BEL := Lib.hid ((BEL.out.trans (hb3.mono BEL.out.size)).alloc (by have := hb3.size; simp at this ⊢; omega) (.cells #[.int .i64 (maxV A B 0), .int .i64 (maxV A B 1), .int .i64 (maxV A B 2), .int .i64 (maxV A B 3), .int .i64 (maxV A B 4), .int .i64 (maxV A B 5), .int .i64 (maxV A B 6), .int .i64 (maxV A B 7), .slice none 0 0] 26)); have OT := Lib.hid (Own.new w3 #[.int .i64 (maxV A B 0), .int .i64 (maxV A B 1), .int .i64 (maxV A B 2), .int .i64 (maxV A B 3), .int .i64 (maxV A B 4), .int .i64 (maxV A B 5), .int .i64 (maxV A B 6), .int .i64 (maxV A B 7), .slice none 0 0] 26); have z3 : w.heap.size + 3 ≤ w3.heap.size := by have := hb3.size; simpa using this)
  clear hb3 X
  generalize (w3.alloc (.cells #[.int .i64 (maxV A B 0), .int .i64 (maxV A B 1), .int .i64 (maxV A B 2), .int .i64 (maxV A B 3), .int .i64 (maxV A B 4), .int .i64 (maxV A B 5), .int .i64 (maxV A B 6), .int .i64 (maxV A B 7), .slice none 0 0] 26)) = w4 at *
  generalize w3.heap.size = bt at *
  go_cut [18] (fun _ wx => ∃ Lv, Hid (FrW wx (l ++ m) Lv ∧ Own wx (w.heap.size + 1 + 1) (knA zeroV (.slice none 0 0)) 26 ∧ Own wx bt (knA (maxV A B) Lv) 26 ∧ Below w.heap.size w wx))
  case first =>
    clear PJ
    have hbt : bt < w4.heap.size := OT.out.lt
    have Q1 := Lib.hid (O1.out.alloc (.cells #[] 40)).drew
    have Q2 := Lib.hid (O2.out.alloc (.cells #[] 40)).drew
    have Q3 := Lib.hid (O3.out.alloc (.cells #[] 40)).drew
    have QT := Lib.hid (OT.out.alloc (.cells #[] 40)).drew
    have BE := Lib.hid (BEL.out.alloc BEL.out.size (.cells #[] 40)).drew
    have HW0 := Lib.hid (show (w4.alloc (.cells #[] 40)).drew.ownsRow w4.heap.size 40 9 (.slice (some ⟨w4.heap.size, 0, none⟩) 0 0) 0 [] from ⟨rfl, .inr ⟨w4.heap.size, 0, #[], rfl, Nat.le_refl _, heap_alloc_new w4 _, Nat.le_refl _, by decide, rfl, rfl⟩⟩)
    have hbs := Lib.hid (show w4.heap.size ≤ (w4.alloc (.cells #[] 40)).drew.heap.size by simp)
    have Z1 := Lib.hid ((O1.out.setFar ⟨bt, 8, none⟩ (.slice (some ⟨w4.heap.size, 0, none⟩) 0 0) (by show w.heap.size ≠ bt; omega)).alloc (.cells #[] 40)).drew
    have Z2 := Lib.hid ((O2.out.setFar ⟨bt, 8, none⟩ (.slice (some ⟨w4.heap.size, 0, none⟩) 0 0) (by show w.heap.size + 1 ≠ bt; omega)).alloc (.cells #[] 40)).drew
    have Z3 := Lib.hid ((O3.out.setFar ⟨bt, 8, none⟩ (.slice (some ⟨w4.heap.size, 0, none⟩) 0 0) (by show w.heap.size + 1 + 1 ≠ bt; omega)).alloc (.cells #[] 40)).drew
    have ZT := Lib.hid (show Own ((w4.setCell ⟨bt, 8, none⟩ (.slice (some ⟨w4.heap.size, 0, none⟩) 0 0)).alloc (.cells #[] 40)).drew bt (knA (maxV A B) (.slice (some ⟨w4.heap.size, 0, none⟩) 0 0)) 26 from ((OT.out.set 8 (.slice (some ⟨w4.heap.size, 0, none⟩) 0 0)).alloc (.cells #[] 40)).drew)
    have ZB := Lib.hid ((BEL.out.setCell (p := ⟨bt, 8, none⟩) (by show w.heap.size ≤ bt; omega) (.slice (some ⟨w4.heap.size, 0, none⟩) 0 0)).alloc (by have := BEL.out.size; simpa [World.setCell] using this) (.cells #[] 40)).drew
    replace O1 := Lib.hid O1.out.drew
    replace O2 := Lib.hid O2.out.drew
    clear O3 OT BEL
    have lT := QT.out.cell
    have fT := QT.out.free
    have zT := QT.out.lt
    by_cases hz : len = 0
    · subst hz
      have hl0 : l = [] := List.length_eq_zero_iff.1 HN.out
      subst hl0
      by_cases hz' : len' = 0
      · subst hz'
        have hm0 : m = [] := List.length_eq_zero_iff.1 HN'.out
        subst hm0
        rcases oa with _ | xa <;> rcases oa' with _ | xb
        · go_region_held3 (fun w' => (∀ q, w'.cell? ⟨w.heap.size, q, none⟩ = (knA A (.slice none 0 cap))[q]?) ∧ ∀ q, w'.cell? ⟨w.heap.size + 1, q, none⟩ = (knA B (.slice none 0 cap'))[q]?) (first | exact ⟨O1.out.cell, O2.out.cell⟩ | exact ⟨Q1.out.cell, Q2.out.cell⟩ | exact ⟨Z1.out.cell, Z2.out.cell⟩ | exact ⟨(Q1.out.setFar _ _ (by show w.heap.size ≠ bt; omega)).cell, (Q2.out.setFar _ _ (by show w.heap.size + 1 ≠ bt; omega)).cell⟩) (fail)
          all_goals
            go_wp2_with fail
            go_meet
            exact ⟨(.slice (some ⟨w4.heap.size, 0, none⟩) 0 0), Lib.hid ⟨fr_nil _ _ _ (by decide), Z3.out, ZT.out, ZB.out⟩⟩
        · go_region_held3 (fun w' => (∀ q, w'.cell? ⟨w.heap.size, q, none⟩ = (knA A (.slice none 0 cap))[q]?) ∧ ∀ q, w'.cell? ⟨w.heap.size + 1, q, none⟩ = (knA B (.slice (some xb) 0 cap'))[q]?) (first | exact ⟨O1.out.cell, O2.out.cell⟩ | exact ⟨Q1.out.cell, Q2.out.cell⟩ | exact ⟨Z1.out.cell, Z2.out.cell⟩ | exact ⟨(Q1.out.setFar _ _ (by show w.heap.size ≠ bt; omega)).cell, (Q2.out.setFar _ _ (by show w.heap.size + 1 ≠ bt; omega)).cell⟩) (fail)
          all_goals
            go_wp2_with fail
            go_meet
            exact ⟨(.slice (some ⟨w4.heap.size, 0, none⟩) 0 0), Lib.hid ⟨fr_nil _ _ _ (by decide), Z3.out, ZT.out, ZB.out⟩⟩
        · go_region_held3 (fun w' => (∀ q, w'.cell? ⟨w.heap.size, q, none⟩ = (knA A (.slice (some xa) 0 cap))[q]?) ∧ ∀ q, w'.cell? ⟨w.heap.size + 1, q, none⟩ = (knA B (.slice none 0 cap'))[q]?) (first | exact ⟨O1.out.cell, O2.out.cell⟩ | exact ⟨Q1.out.cell, Q2.out.cell⟩ | exact ⟨Z1.out.cell, Z2.out.cell⟩ | exact ⟨(Q1.out.setFar _ _ (by show w.heap.size ≠ bt; omega)).cell, (Q2.out.setFar _ _ (by show w.heap.size + 1 ≠ bt; omega)).cell⟩) (fail)
          all_goals
            go_wp2_with fail
            go_meet
            exact ⟨(.slice (some ⟨w4.heap.size, 0, none⟩) 0 0), Lib.hid ⟨fr_nil _ _ _ (by decide), Z3.out, ZT.out, ZB.out⟩⟩
        · go_region_held3 (fun w' => (∀ q, w'.cell? ⟨w.heap.size, q, none⟩ = (knA A (.slice (some xa) 0 cap))[q]?) ∧ ∀ q, w'.cell? ⟨w.heap.size + 1, q, none⟩ = (knA B (.slice (some xb) 0 cap'))[q]?) (first | exact ⟨O1.out.cell, O2.out.cell⟩ | exact ⟨Q1.out.cell, Q2.out.cell⟩ | exact ⟨Z1.out.cell, Z2.out.cell⟩ | exact ⟨(Q1.out.setFar _ _ (by show w.heap.size ≠ bt; omega)).cell, (Q2.out.setFar _ _ (by show w.heap.size + 1 ≠ bt; omega)).cell⟩) (fail)
          all_goals
            go_wp2_with fail
            go_meet
            exact ⟨(.slice (some ⟨w4.heap.size, 0, none⟩) 0 0), Lib.hid ⟨fr_nil _ _ _ (by decide), Z3.out, ZT.out, ZB.out⟩⟩
      · obtain ⟨rfl, hb0'⟩ := HR'.out.at0 (by rw [HN'.out]; omega)
        rcases oa with _ | xa
        · go_region_held3 (fun w' => (∀ q, w'.cell? ⟨w.heap.size, q, none⟩ = (knA A (.slice none 0 cap))[q]?) ∧ ∀ q, w'.cell? ⟨w.heap.size + 1, q, none⟩ = (knA B (.slice (some ⟨b0', o', none⟩) len' cap'))[q]?) (first | exact ⟨O1.out.cell, O2.out.cell⟩ | exact ⟨Q1.out.cell, Q2.out.cell⟩ | exact ⟨Z1.out.cell, Z2.out.cell⟩ | exact ⟨(Q1.out.setFar _ _ (by show w.heap.size ≠ bt; omega)).cell, (Q2.out.setFar _ _ (by show w.heap.size + 1 ≠ bt; omega)).cell⟩) (first | (refine step_append_lies _ (by rfl) _ _ _ (by rfl) w4.heap.size 40 j0 _ 9 88 Try.underlying24 hj hy0 hy1 hy2 rfl (by omega) (.slice (some ⟨w4.heap.size, 0, none⟩) 0 0) 0 [] (by rfl) HW0.out ⟨b0', o', none⟩ len' cap' (frCs U' 0 m) (by rfl) HL'.out (fr_news (HR'.out.later BE.out (Nat.le_refl _))) (fr_one HR'.out) (by omega) (by unfold maxLen; omega) (by omega) hbs.out (w4.heap.size + 1) (by simp) ?_; intro g6 c6 w6 how hgr hat hlt5; replace Q1 := Lib.hid (Q1.out.grown hgr (own_ne HW0.out (by omega))); replace Q2 := Lib.hid (Q2.out.grown hgr (own_ne HW0.out (by omega))); replace Q3 := Lib.hid (Q3.out.grown hgr (own_ne HW0.out (by omega))); replace QT := Lib.hid (QT.out.grown hgr (own_ne HW0.out (by omega))); replace BE := Lib.hid (BE.out.grown hgr BE.out.size fun k hk => by have := (World.ownsRow.lt HW0.out k hk).1; omega); replace hbs := Lib.hid (Nat.le_trans hbs.out hgr.size); have HW6 := Lib.hid (show w6.ownsRow w4.heap.size 40 9 (.slice (some ⟨g6, 0, none⟩) len' c6) len' (frCs U' 0 m) by simpa using how); have HW6r := Lib.hid how; have hc6 := row_cap HW6.out; replace lT := QT.out.cell; replace fT := QT.out.free; replace zT := QT.out.lt; clear hgr hat hlt5 how) | fail)
          all_goals
            go_wp2_with fail
            go_meet
            have BF := BE.out.setCell (p := ⟨bt, 8, none⟩) (by show w.heap.size ≤ bt; omega) (.slice (some ⟨g6, 0, none⟩) len' c6)
            have HWF := ownsRow_setCell_below HW6.out (a := ⟨bt, 8, none⟩) (by show bt < w4.heap.size; omega) (.slice (some ⟨g6, 0, none⟩) len' c6)
            exact ⟨(.slice (some ⟨g6, 0, none⟩) len' c6), Lib.hid ⟨row_fr (l := m) (U := U') (by rw [HN'.out]; exact HWF) (fun k f hf => (HR'.out.later BF (Nat.le_refl _)).ids k f hf), Q3.out.setFar _ _ (by show w.heap.size + 1 + 1 ≠ bt; omega), QT.out.set 8 _, BF⟩⟩
        · go_region_held3 (fun w' => (∀ q, w'.cell? ⟨w.heap.size, q, none⟩ = (knA A (.slice (some xa) 0 cap))[q]?) ∧ ∀ q, w'.cell? ⟨w.heap.size + 1, q, none⟩ = (knA B (.slice (some ⟨b0', o', none⟩) len' cap'))[q]?) (first | exact ⟨O1.out.cell, O2.out.cell⟩ | exact ⟨Q1.out.cell, Q2.out.cell⟩ | exact ⟨Z1.out.cell, Z2.out.cell⟩ | exact ⟨(Q1.out.setFar _ _ (by show w.heap.size ≠ bt; omega)).cell, (Q2.out.setFar _ _ (by show w.heap.size + 1 ≠ bt; omega)).cell⟩) (first | (refine step_append_lies _ (by rfl) _ _ _ (by rfl) w4.heap.size 40 j0 _ 9 88 Try.underlying24 hj hy0 hy1 hy2 rfl (by omega) (.slice (some ⟨w4.heap.size, 0, none⟩) 0 0) 0 [] (by rfl) HW0.out ⟨b0', o', none⟩ len' cap' (frCs U' 0 m) (by rfl) HL'.out (fr_news (HR'.out.later BE.out (Nat.le_refl _))) (fr_one HR'.out) (by omega) (by unfold maxLen; omega) (by omega) hbs.out (w4.heap.size + 1) (by simp) ?_; intro g6 c6 w6 how hgr hat hlt5; replace Q1 := Lib.hid (Q1.out.grown hgr (own_ne HW0.out (by omega))); replace Q2 := Lib.hid (Q2.out.grown hgr (own_ne HW0.out (by omega))); replace Q3 := Lib.hid (Q3.out.grown hgr (own_ne HW0.out (by omega))); replace QT := Lib.hid (QT.out.grown hgr (own_ne HW0.out (by omega))); replace BE := Lib.hid (BE.out.grown hgr BE.out.size fun k hk => by have := (World.ownsRow.lt HW0.out k hk).1; omega); replace hbs := Lib.hid (Nat.le_trans hbs.out hgr.size); have HW6 := Lib.hid (show w6.ownsRow w4.heap.size 40 9 (.slice (some ⟨g6, 0, none⟩) len' c6) len' (frCs U' 0 m) by simpa using how); have HW6r := Lib.hid how; have hc6 := row_cap HW6.out; replace lT := QT.out.cell; replace fT := QT.out.free; replace zT := QT.out.lt; clear hgr hat hlt5 how) | fail)
          all_goals
            go_wp2_with fail
            go_meet
            have BF := BE.out.setCell (p := ⟨bt, 8, none⟩) (by show w.heap.size ≤ bt; omega) (.slice (some ⟨g6, 0, none⟩) len' c6)
            have HWF := ownsRow_setCell_below HW6.out (a := ⟨bt, 8, none⟩) (by show bt < w4.heap.size; omega) (.slice (some ⟨g6, 0, none⟩) len' c6)
            exact ⟨(.slice (some ⟨g6, 0, none⟩) len' c6), Lib.hid ⟨row_fr (l := m) (U := U') (by rw [HN'.out]; exact HWF) (fun k f hf => (HR'.out.later BF (Nat.le_refl _)).ids k f hf), Q3.out.setFar _ _ (by show w.heap.size + 1 + 1 ≠ bt; omega), QT.out.set 8 _, BF⟩⟩
    · obtain ⟨rfl, hb0⟩ := HR.out.at0 (by rw [HN.out]; omega)
      by_cases hz' : len' = 0
      · subst hz'
        have hm0 : m = [] := List.length_eq_zero_iff.1 HN'.out
        subst hm0
        rcases oa' with _ | xb
        · go_region_held3 (fun w' => (∀ q, w'.cell? ⟨w.heap.size, q, none⟩ = (knA A (.slice (some ⟨b0, o, none⟩) len cap))[q]?) ∧ ∀ q, w'.cell? ⟨w.heap.size + 1, q, none⟩ = (knA B (.slice none 0 cap'))[q]?) (first | exact ⟨O1.out.cell, O2.out.cell⟩ | exact ⟨Q1.out.cell, Q2.out.cell⟩ | exact ⟨Z1.out.cell, Z2.out.cell⟩ | exact ⟨(Q1.out.setFar _ _ (by show w.heap.size ≠ bt; omega)).cell, (Q2.out.setFar _ _ (by show w.heap.size + 1 ≠ bt; omega)).cell⟩) (first | (refine step_append_lies _ (by rfl) _ _ _ (by rfl) w4.heap.size 40 j0 _ 9 88 Try.underlying24 hj hy0 hy1 hy2 rfl (by omega) (.slice (some ⟨w4.heap.size, 0, none⟩) 0 0) 0 [] (by rfl) HW0.out ⟨b0, o, none⟩ len cap (frCs U 0 l) (by rfl) HL.out (fr_news (HR.out.later BE.out (Nat.le_refl _))) (fr_one HR.out) (by omega) (by unfold maxLen; omega) (by omega) hbs.out (w4.heap.size + 1) (by simp) ?_; intro g5 c5 w5 how hgr hat hlt5; replace Q1 := Lib.hid (Q1.out.grown hgr (own_ne HW0.out (by omega))); replace Q2 := Lib.hid (Q2.out.grown hgr (own_ne HW0.out (by omega))); replace Q3 := Lib.hid (Q3.out.grown hgr (own_ne HW0.out (by omega))); replace QT := Lib.hid (QT.out.grown hgr (own_ne HW0.out (by omega))); replace BE := Lib.hid (BE.out.grown hgr BE.out.size fun k hk => by have := (World.ownsRow.lt HW0.out k hk).1; omega); replace hbs := Lib.hid (Nat.le_trans hbs.out hgr.size); have HW5 := Lib.hid (show w5.ownsRow w4.heap.size 40 9 (.slice (some ⟨g5, 0, none⟩) len c5) len (frCs U 0 l) by simpa using how); have HW5r := Lib.hid how; have hc5 := row_cap HW5.out; replace lT := QT.out.cell; replace fT := QT.out.free; replace zT := QT.out.lt; clear hgr hat hlt5 how) | fail)
          all_goals
            go_wp2_with fail
            go_meet
            have BF := BE.out.setCell (p := ⟨bt, 8, none⟩) (by show w.heap.size ≤ bt; omega) (.slice (some ⟨g5, 0, none⟩) len c5)
            have HWF := ownsRow_setCell_below HW5.out (a := ⟨bt, 8, none⟩) (by show bt < w4.heap.size; omega) (.slice (some ⟨g5, 0, none⟩) len c5)
            exact ⟨(.slice (some ⟨g5, 0, none⟩) len c5), Lib.hid ⟨(by rw [List.append_nil]; exact row_fr (l := l) (U := U) (by rw [HN.out]; exact HWF) (fun k f hf => (HR.out.later BF (Nat.le_refl _)).ids k f hf)), Q3.out.setFar _ _ (by show w.heap.size + 1 + 1 ≠ bt; omega), QT.out.set 8 _, BF⟩⟩
        · go_region_held3 (fun w' => (∀ q, w'.cell? ⟨w.heap.size, q, none⟩ = (knA A (.slice (some ⟨b0, o, none⟩) len cap))[q]?) ∧ ∀ q, w'.cell? ⟨w.heap.size + 1, q, none⟩ = (knA B (.slice (some xb) 0 cap'))[q]?) (first | exact ⟨O1.out.cell, O2.out.cell⟩ | exact ⟨Q1.out.cell, Q2.out.cell⟩ | exact ⟨Z1.out.cell, Z2.out.cell⟩ | exact ⟨(Q1.out.setFar _ _ (by show w.heap.size ≠ bt; omega)).cell, (Q2.out.setFar _ _ (by show w.heap.size + 1 ≠ bt; omega)).cell⟩) (first | (refine step_append_lies _ (by rfl) _ _ _ (by rfl) w4.heap.size 40 j0 _ 9 88 Try.underlying24 hj hy0 hy1 hy2 rfl (by omega) (.slice (some ⟨w4.heap.size, 0, none⟩) 0 0) 0 [] (by rfl) HW0.out ⟨b0, o, none⟩ len cap (frCs U 0 l) (by rfl) HL.out (fr_news (HR.out.later BE.out (Nat.le_refl _))) (fr_one HR.out) (by omega) (by unfold maxLen; omega) (by omega) hbs.out (w4.heap.size + 1) (by simp) ?_; intro g5 c5 w5 how hgr hat hlt5; replace Q1 := Lib.hid (Q1.out.grown hgr (own_ne HW0.out (by omega))); replace Q2 := Lib.hid (Q2.out.grown hgr (own_ne HW0.out (by omega))); replace Q3 := Lib.hid (Q3.out.grown hgr (own_ne HW0.out (by omega))); replace QT := Lib.hid (QT.out.grown hgr (own_ne HW0.out (by omega))); replace BE := Lib.hid (BE.out.grown hgr BE.out.size fun k hk => by have := (World.ownsRow.lt HW0.out k hk).1; omega); replace hbs := Lib.hid (Nat.le_trans hbs.out hgr.size); have HW5 := Lib.hid (show w5.ownsRow w4.heap.size 40 9 (.slice (some ⟨g5, 0, none⟩) len c5) len (frCs U 0 l) by simpa using how); have HW5r := Lib.hid how; have hc5 := row_cap HW5.out; replace lT := QT.out.cell; replace fT := QT.out.free; replace zT := QT.out.lt; clear hgr hat hlt5 how) | fail)
          all_goals
            go_wp2_with fail
            go_meet
            have BF := BE.out.setCell (p := ⟨bt, 8, none⟩) (by show w.heap.size ≤ bt; omega) (.slice (some ⟨g5, 0, none⟩) len c5)
            have HWF := ownsRow_setCell_below HW5.out (a := ⟨bt, 8, none⟩) (by show bt < w4.heap.size; omega) (.slice (some ⟨g5, 0, none⟩) len c5)
            exact ⟨(.slice (some ⟨g5, 0, none⟩) len c5), Lib.hid ⟨(by rw [List.append_nil]; exact row_fr (l := l) (U := U) (by rw [HN.out]; exact HWF) (fun k f hf => (HR.out.later BF (Nat.le_refl _)).ids k f hf)), Q3.out.setFar _ _ (by show w.heap.size + 1 + 1 ≠ bt; omega), QT.out.set 8 _, BF⟩⟩
      · obtain ⟨rfl, hb0'⟩ := HR'.out.at0 (by rw [HN'.out]; omega)
        go_region_held3 (fun w' => (∀ q, w'.cell? ⟨w.heap.size, q, none⟩ = (knA A (.slice (some ⟨b0, o, none⟩) len cap))[q]?) ∧ ∀ q, w'.cell? ⟨w.heap.size + 1, q, none⟩ = (knA B (.slice (some ⟨b0', o', none⟩) len' cap'))[q]?) (first | exact ⟨O1.out.cell, O2.out.cell⟩ | exact ⟨Q1.out.cell, Q2.out.cell⟩ | exact ⟨Z1.out.cell, Z2.out.cell⟩ | exact ⟨(Q1.out.setFar _ _ (by show w.heap.size ≠ bt; omega)).cell, (Q2.out.setFar _ _ (by show w.heap.size + 1 ≠ bt; omega)).cell⟩) (first | (refine step_append_lies _ (by rfl) _ _ _ (by rfl) w4.heap.size 40 j0 _ 9 88 Try.underlying24 hj hy0 hy1 hy2 rfl (by omega) (.slice (some ⟨w4.heap.size, 0, none⟩) 0 0) 0 [] (by rfl) HW0.out ⟨b0, o, none⟩ len cap (frCs U 0 l) (by rfl) HL.out (fr_news (HR.out.later BE.out (Nat.le_refl _))) (fr_one HR.out) (by omega) (by unfold maxLen; omega) (by omega) hbs.out (w4.heap.size + 1) (by simp) ?_; intro g5 c5 w5 how hgr hat hlt5; replace Q1 := Lib.hid (Q1.out.grown hgr (own_ne HW0.out (by omega))); replace Q2 := Lib.hid (Q2.out.grown hgr (own_ne HW0.out (by omega))); replace Q3 := Lib.hid (Q3.out.grown hgr (own_ne HW0.out (by omega))); replace QT := Lib.hid (QT.out.grown hgr (own_ne HW0.out (by omega))); replace BE := Lib.hid (BE.out.grown hgr BE.out.size fun k hk => by have := (World.ownsRow.lt HW0.out k hk).1; omega); replace hbs := Lib.hid (Nat.le_trans hbs.out hgr.size); have HW5 := Lib.hid (show w5.ownsRow w4.heap.size 40 9 (.slice (some ⟨g5, 0, none⟩) len c5) len (frCs U 0 l) by simpa using how); have HW5r := Lib.hid how; have hc5 := row_cap HW5.out; replace lT := QT.out.cell; replace fT := QT.out.free; replace zT := QT.out.lt; clear hgr hat hlt5 how) | (refine step_append_lies _ (by rfl) _ _ _ (by rfl) w4.heap.size 40 j0 _ 9 88 Try.underlying24 hj hy0 hy1 hy2 rfl (by omega) (.slice (some ⟨g5, 0, none⟩) len c5) len (frCs U 0 l) (by rfl) HW5.out ⟨b0', o', none⟩ len' cap' (frCs U' 0 m) (by rfl) HL'.out (fr_news (HR'.out.later BE.out (Nat.le_refl _))) (fr_one HR'.out) (by omega) (by unfold maxLen; omega) (by omega) hbs.out w5.heap.size rfl ?_; intro g6 c6 w6 how hgr hat hlt5; replace Q1 := Lib.hid (Q1.out.grown hgr (own_ne HW5.out (by omega))); replace Q2 := Lib.hid (Q2.out.grown hgr (own_ne HW5.out (by omega))); replace Q3 := Lib.hid (Q3.out.grown hgr (own_ne HW5.out (by omega))); replace QT := Lib.hid (QT.out.grown hgr (own_ne HW5.out (by omega))); replace BE := Lib.hid (BE.out.grown hgr BE.out.size fun k hk => by have := (World.ownsRow.lt HW5.out k hk).1; omega); replace hbs := Lib.hid (Nat.le_trans hbs.out hgr.size); have HW6 := Lib.hid (show w6.ownsRow w4.heap.size 40 9 (.slice (some ⟨g6, 0, none⟩) (len + len') c6) (len + len') (frCs U 0 l ++ frCs U' 0 m) by simpa using how); have HW6r := Lib.hid how; have hc6 := row_cap HW6.out; replace lT := QT.out.cell; replace fT := QT.out.free; replace zT := QT.out.lt; clear hgr hat hlt5 how) | (refine step_append_lies _ (by rfl) _ _ _ (by rfl) w4.heap.size 40 j0 _ 9 88 Try.underlying24 hj hy0 hy1 hy2 rfl (by omega) (.slice (some ⟨g5, 0, none⟩) (0 + len) c5) (0 + len) ([] ++ frCs U 0 l) (by rfl) HW5r.out ⟨b0', o', none⟩ len' cap' (frCs U' 0 m) (by rfl) HL'.out (fr_news (HR'.out.later BE.out (Nat.le_refl _))) (fr_one HR'.out) (by omega) (by unfold maxLen; omega) (by omega) hbs.out w5.heap.size rfl ?_; intro g6 c6 w6 how hgr hat hlt5; replace Q1 := Lib.hid (Q1.out.grown hgr (own_ne HW5r.out (by omega))); replace Q2 := Lib.hid (Q2.out.grown hgr (own_ne HW5r.out (by omega))); replace Q3 := Lib.hid (Q3.out.grown hgr (own_ne HW5r.out (by omega))); replace QT := Lib.hid (QT.out.grown hgr (own_ne HW5r.out (by omega))); replace BE := Lib.hid (BE.out.grown hgr BE.out.size fun k hk => by have := (World.ownsRow.lt HW5r.out k hk).1; omega); replace hbs := Lib.hid (Nat.le_trans hbs.out hgr.size); have HW6 := Lib.hid (show w6.ownsRow w4.heap.size 40 9 (.slice (some ⟨g6, 0, none⟩) (len + len') c6) (len + len') (frCs U 0 l ++ frCs U' 0 m) by simpa using how); have HW6r := Lib.hid how; have hc6 := row_cap HW6.out; replace lT := QT.out.cell; replace fT := QT.out.free; replace zT := QT.out.lt; clear hgr hat hlt5 how) | fail)
        all_goals
          go_wp2_with fail
          go_meet
          have BF := BE.out.setCell (p := ⟨bt, 8, none⟩) (by show w.heap.size ≤ bt; omega) (.slice (some ⟨g6, 0, none⟩) (len + len') c6)
          have HWF := ownsRow_setCell_below HW6.out (a := ⟨bt, 8, none⟩) (by show bt < w4.heap.size; omega) (.slice (some ⟨g6, 0, none⟩) (len + len') c6)
          exact ⟨(.slice (some ⟨g6, 0, none⟩) (len + len') c6), Lib.hid ⟨glue_fr (l := l) (m := m) (U := U) (V := U') (by rw [HN.out, HN'.out]; exact HWF) (fun k f hf => (HR.out.later BF (Nat.le_refl _)).ids k f hf) (fun k f hf => (HR'.out.later BF (Nat.le_refl _)).ids k f hf), Q3.out.setFar _ _ (by show w.heap.size + 1 + 1 ≠ bt; omega), QT.out.set 8 _, BF⟩⟩
  case rest =>
    obtain ⟨Lv, HC⟩ := hcut
    obtain ⟨oL, cL, rfl⟩ := HC.out.1.val
    generalize wc = wq at *
    have C := PJ _ wq HC.out.1
    have lT := HC.out.2.2.1.cell
    have zT := HC.out.2.2.1.lt
    have hlo : w.heap.size + 1 + 1 < wq.heap.size := HC.out.2.1.lt
    generalize (l ++ m).length = nL at *
    clear PJ O1 O2 O3 OT BEL
    go_wp2_with (go_at_call 10; refine C.out.mono ?_; rintro e w9 ⟨v9, rfl, hf9, hb9⟩; obtain ⟨o9, c9, rfl⟩ := hf9.fr.val; have O9 := HC.out.2.1.later hb9; have l9 := O9.cell; have f9 := O9.free; have z9 := O9.lt; have KEY := Lib.hid (And.intro (st9_own O9 (.int .i64 (maxV A B 0)) (.int .i64 (maxV A B 1)) (.int .i64 (maxV A B 2)) (.int .i64 (maxV A B 3)) (.int .i64 (maxV A B 4)) (.int .i64 (maxV A B 5)) (.int .i64 (maxV A B 6)) (.int .i64 (maxV A B 7)) (.slice o9 res.length c9)) (And.intro (st9_below (b := w.heap.size + 1 + 1) (HC.out.2.2.2.trans (hb9.mono HC.out.2.2.2.size)) (by omega) (.int .i64 (maxV A B 0)) (.int .i64 (maxV A B 1)) (.int .i64 (maxV A B 2)) (.int .i64 (maxV A B 3)) (.int .i64 (maxV A B 4)) (.int .i64 (maxV A B 5)) (.int .i64 (maxV A B 6)) (.int .i64 (maxV A B 7)) (.slice o9 res.length c9)) ((hf9.set9 hlo (.int .i64 (maxV A B 0)) (.int .i64 (maxV A B 1)) (.int .i64 (maxV A B 2)) (.int .i64 (maxV A B 3)) (.int .i64 (maxV A B 4)) (.int .i64 (maxV A B 5)) (.int .i64 (maxV A B 6)) (.int .i64 (maxV A B 7)) (.slice o9 res.length c9)).mono (by omega : w.heap.size ≤ wq.heap.size)))); clear O9 hf9 hb9 lT zT)
    clear l9 f9 z9
    have key := KEY.out
    unfold st9 st8 at key
    revert key
    generalize World.setCell (World.setCell (World.setCell (World.setCell (World.setCell (World.setCell (World.setCell (World.setCell (World.setCell _ _ _) _ _) _ _) _ _) _ _) _ _) _ _) _ _) _ _ = WW
    rintro ⟨of, bf, ff⟩
    have lf := of.cell
    refine bodyPost_ret (v := knV (maxV A B) (.slice o9 res.length c9)) (by simp [results, Try.results20, go_sem, lf]) rfl ⟨_, rfl, ff, bf⟩

end Go.Proofs.Ythhbjgecdhogoaa
