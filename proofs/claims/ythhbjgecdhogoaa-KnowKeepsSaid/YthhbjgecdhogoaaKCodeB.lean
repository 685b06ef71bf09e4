/- The code's With of what is known, walked. -/
import Derived.Test.YthhbjgecdhogoaaKPlain
import Derived.Test.YthhbjgecdhogoaaKConc
import Derived.Test.YthhbjgecdhogoaaVecWith
namespace Go.Proofs.Ythhbjgecdhogoaa
set_option linter.unusedVariables false
set_option linter.unusedSimpArgs false
open Go.RowKit

theorem txOne {w : World} {b : Nat} {id : ByteArray} (h : Own w b #[.string id] 9) (hid : id.size ≤ maxLen) : TxW w [id] (.slice (some ⟨b, 0, none⟩) 1 1) :=
  ⟨some ⟨b, 0, none⟩, 1, b, 0, rfl, by simp, by unfold maxLen; omega, fun _ => ⟨rfl, h.lt⟩, fun k s hk => by
    have : k = 0 := by have := posA hk; simp at this; omega
    subst this
    simp at hk; subst hk
    rw [h.cell]; rfl, fun s hs => by simp at hs; subst hs; exact hid⟩
theorem frOne {w : World} {b : Nat} {f : Fr} {u : Value} (h : Own w b #[u, .int .i64 (f.v 0), .int .i64 (f.v 1), .int .i64 (f.v 2), .int .i64 (f.v 3), .int .i64 (f.v 4), .int .i64 (f.v 5), .int .i64 (f.v 6), .int .i64 (f.v 7)] 40) (hT : TxW w f.ids u) : FrAt w [f] (fun _ => u) (some ⟨b, 0, none⟩) 1 b 0 :=
  ⟨by simp, by unfold maxLen; omega, fun _ => ⟨rfl, h.lt⟩, fun k g hk j z hz => by
    have : k = 0 := by have := posA hk; simp at this; omega
    subst this
    simp at hk; subst hk
    rw [h.cell]
    have hj : j < 9 := (List.getElem?_eq_some_iff.1 hz).1
    rw [← hz]
    obtain rfl | rfl | rfl | rfl | rfl | rfl | rfl | rfl | rfl : j = 0 ∨ j = 1 ∨ j = 2 ∨ j = 3 ∨ j = 4 ∨ j = 5 ∨ j = 6 ∨ j = 7 ∨ j = 8 := by omega
    all_goals rfl, fun k g hk => by
    have : k = 0 := by have := posA hk; simp at this; omega
    subst this
    simp at hk; subst hk
    exact hT⟩

set_option maxRecDepth 100000 in
set_option maxHeartbeats 8000000 in
theorem codeWith_calls (K : Kn) (id : ByteArray) (r c : Int) (v : Value) (w : World) (hR : FrW w K.l v) (hid : id.size ≤ maxLen) (hl1 : (flatI (withK K id r c).l).length ≤ 10000) (hl2 : K.l.length ≤ 10000) :
    Calls Try.prog 11 #[knV K.star v, .string id, .agg #[.int .i64 r, .int .i64 c]] w fun e w' => ∃ v', e = .returned (knV K.star v') ∧ FrFresh w' w.heap.size (plainB (withK K id r c)).l v' ∧ Below w.heap.size w w' := by
  obtain ⟨U, ov, cv, b, o, rfl, hF⟩ := hR
  unfold withK at *
  obtain ⟨A, l⟩ := K
  simp only at *
  have CW := fun w' => Lib.hid (show Calls Try.prog 29 #[.agg #[.int .i64 0, .int .i64 0, .int .i64 0, .int .i64 0, .int .i64 0, .int .i64 0, .int .i64 0, .int .i64 0], .agg #[.int .i64 r, .int .i64 c]] w' (fun e w'' => e = .returned (vecV (withV zeroV r c)) ∧ Below w'.heap.size w' w'') from vecWith_calls zeroV r c w')
  generalize withV zeroV r c = V at *
  have HF := Lib.hid hF
  have HL := Lib.hid hl1
  have hl3 : l.length + [(⟨[id], V⟩ : Fr)].length ≤ 20000 := by simp; omega
  have CP := fun u w' h => Lib.hid (codePlain_calls ⟨A, l ++ [⟨[id], V⟩]⟩ u w' h HL.out)
  generalize (plainB ⟨A, l ++ [⟨[id], V⟩]⟩).l = res at *
  have O1 := Lib.hid ((((Own.newAt w (knA A (.slice ov l.length cv)) 26 (b := w.heap.size) (by first | rfl | simp)).alloc (.cells #[.int .i64 r, .int .i64 c] 28)).alloc (.cells (knA zeroV (.slice none 0 0)) 26)).alloc (.cells #[.string id] 9))
  have O2 := Lib.hid (((Own.newAt (w.alloc (.cells (knA A (.slice ov l.length cv)) 26)) #[.int .i64 r, .int .i64 c] 28 (b := w.heap.size + 1) (by first | rfl | simp)).alloc (.cells (knA zeroV (.slice none 0 0)) 26)).alloc (.cells #[.string id] 9))
  have O3 := Lib.hid ((Own.newAt ((w.alloc (.cells (knA A (.slice ov l.length cv)) 26)).alloc (.cells #[.int .i64 r, .int .i64 c] 28)) (knA zeroV (.slice none 0 0)) 26 (b := w.heap.size + 1 + 1) (by first | rfl | simp)).alloc (.cells #[.string id] 9))
  have O4 := Lib.hid (Own.newAt (((w.alloc (.cells (knA A (.slice ov l.length cv)) 26)).alloc (.cells #[.int .i64 r, .int .i64 c] 28)).alloc (.cells (knA zeroV (.slice none 0 0)) 26)) #[.string id] 9 (b := w.heap.size + 1 + 1 + 1) (by first | rfl | simp))
  have BE := Lib.hid (((((Below.refl w.heap.size w).alloc (by first | exact Nat.le_refl _ | (simp; omega) | simp) (.cells (knA A (.slice ov l.length cv)) 26)).alloc (by first | exact Nat.le_refl _ | (simp; omega) | simp) (.cells #[.int .i64 r, .int .i64 c] 28)).alloc (by first | exact Nat.le_refl _ | (simp; omega) | simp) (.cells (knA zeroV (.slice none 0 0)) 26)).alloc (by first | exact Nat.le_refl _ | (simp; omega) | simp) (.cells #[.string id] 9))
  clear hF hl1
  have l2 := O2.out.cell
  have z2 := O2.out.lt
  go_enter Try.func11, Try.ntmps11
  go_wp2_with (first
    | (go_at_call 29; refine (CW _).out.mono ?_; rintro e w5 ⟨rfl, hb5⟩; clear l2 z2; replace O1 := Lib.hid (O1.out.later hb5); replace O3 := Lib.hid (O3.out.later hb5); replace O4 := Lib.hid (O4.out.later hb5); replace BE := Lib.hid (BE.out.trans (hb5.mono BE.out.size)); clear hb5; have l1 := O1.out.cell; have z1 := O1.out.lt; have P2 := Lib.hid ((Own.newAt (w5.alloc (.cells #[.slice (some ⟨w.heap.size + 1 + 1 + 1, 0, none⟩) 1 1, .int .i64 (V 0), .int .i64 (V 1), .int .i64 (V 2), .int .i64 (V 3), .int .i64 (V 4), .int .i64 (V 5), .int .i64 (V 6), .int .i64 (V 7)] 40)) #[.slice (some ⟨w.heap.size + 1 + 1 + 1, 0, none⟩) 1 1, .int .i64 (V 0), .int .i64 (V 1), .int .i64 (V 2), .int .i64 (V 3), .int .i64 (V 4), .int .i64 (V 5), .int .i64 (V 6), .int .i64 (V 7)] 40 (b := w5.heap.size + 1) (by first | rfl | simp)).alloc (.cells #[.slice ov l.length cv, .slice (some ⟨w5.heap.size + 1, 0, none⟩) 1 1] 24)); have P3 := Lib.hid (Own.newAt ((w5.alloc (.cells #[.slice (some ⟨w.heap.size + 1 + 1 + 1, 0, none⟩) 1 1, .int .i64 (V 0), .int .i64 (V 1), .int .i64 (V 2), .int .i64 (V 3), .int .i64 (V 4), .int .i64 (V 5), .int .i64 (V 6), .int .i64 (V 7)] 40)).alloc (.cells #[.slice (some ⟨w.heap.size + 1 + 1 + 1, 0, none⟩) 1 1, .int .i64 (V 0), .int .i64 (V 1), .int .i64 (V 2), .int .i64 (V 3), .int .i64 (V 4), .int .i64 (V 5), .int .i64 (V 6), .int .i64 (V 7)] 40)) #[.slice ov l.length cv, .slice (some ⟨w5.heap.size + 1, 0, none⟩) 1 1] 24 (b := w5.heap.size + 1 + 1) (by first | rfl | simp)); have PB := Lib.hid ((((Below.refl w5.heap.size w5).alloc (by first | exact Nat.le_refl _ | (simp; omega) | simp) (.cells #[.slice (some ⟨w.heap.size + 1 + 1 + 1, 0, none⟩) 1 1, .int .i64 (V 0), .int .i64 (V 1), .int .i64 (V 2), .int .i64 (V 3), .int .i64 (V 4), .int .i64 (V 5), .int .i64 (V 6), .int .i64 (V 7)] 40)).alloc (by first | exact Nat.le_refl _ | (simp; omega) | simp) (.cells #[.slice (some ⟨w.heap.size + 1 + 1 + 1, 0, none⟩) 1 1, .int .i64 (V 0), .int .i64 (V 1), .int .i64 (V 2), .int .i64 (V 3), .int .i64 (V 4), .int .i64 (V 5), .int .i64 (V 6), .int .i64 (V 7)] 40)).alloc (by first | exact Nat.le_refl _ | (simp; omega) | simp) (.cells #[.slice ov l.length cv, .slice (some ⟨w5.heap.size + 1, 0, none⟩) 1 1] 24)); have TX := Lib.hid (txOne (O4.out.later PB.out) hid); have CC := Lib.hid (concat_row l [⟨[id], V⟩] U (fun _ => .slice (some ⟨w.heap.size + 1 + 1 + 1, 0, none⟩) 1 1) ov (some ⟨w5.heap.size + 1, 0, none⟩) cv 1 b (w5.heap.size + 1) o 0 (w5.heap.size + 1 + 1) _ P3.out.lt (P3.out.cell 0) (P3.out.cell 1) (HF.out.later (BE.out.trans (PB.out.mono BE.out.size)) (Nat.le_refl _)) (frOne (f := ⟨[id], V⟩) P2.out TX.out) hl3))
    | (go_at_call 30; refine CC.out.mono ?_; rintro e w7 ⟨u, rfl, hrow, hb7⟩; obtain ⟨ou, cu, gu, rfl, _, _, _⟩ := row_slice hrow; clear l1 z1; have HB57 := Lib.hid (PB.out.trans (hb7.mono PB.out.size)); replace O1 := Lib.hid (O1.out.later HB57.out); replace O3 := Lib.hid (O3.out.later HB57.out); replace O4 := Lib.hid (O4.out.later HB57.out); have BE7 := Lib.hid (BE.out.trans (HB57.out.mono BE.out.size)); have HROW := Lib.hid hrow; clear hrow hb7; have l1 := O1.out.cell; have f1 := O1.out.free; have z1 := O1.out.lt; have BS := Lib.hid (BE7.out.setCell (p := ⟨w.heap.size, 8, none⟩) (Nat.le_refl _) (.slice ou (l ++ [(⟨[id], V⟩ : Fr)]).length cu)); have HFR := Lib.hid (bothFr (ownsRow_setCell_below HROW.out (a := ⟨w.heap.size, 8, none⟩) (by have := BE.out.size; simp; omega) (.slice ou (l ++ [(⟨[id], V⟩ : Fr)]).length cu)) (fun k f hf => (HF.out.ids k f hf).later BS.out (Nat.le_refl _)) (fun k f hf => by (have : k = 0 := by have := posA hf; simp at this; omega); subst this; simp at hf; subst hf; exact txOne (O4.out.setFar _ _ (by show w.heap.size + 1 + 1 + 1 ≠ w.heap.size; omega)) hid)); have HP := CP _ _ HFR.out; have O3S := Lib.hid (O3.out.setFar ⟨w.heap.size, 8, none⟩ (.slice ou (l ++ [(⟨[id], V⟩ : Fr)]).length cu) (by show w.heap.size + 1 + 1 ≠ w.heap.size; omega)); clear HFR CC PB P2 P3 TX O4; generalize (l ++ [(⟨[id], V⟩ : Fr)]).length = n9 at *)
    | (go_at_call 9; refine HP.out.mono ?_; rintro e w8 ⟨v8, rfl, hfr8, hb8⟩; obtain ⟨o8, c8, rfl⟩ := hfr8.fr.val; clear l1 f1 z1; have O38 := Lib.hid (O3S.out.later hb8); have BE8 := Lib.hid (BS.out.trans (hb8.mono BS.out.size)); have l3 := O38.out.cell; have f3 := O38.out.free; have z3 := O38.out.lt; have z38 := Lib.hid (O3S.out.lt); have z37 := Lib.hid BS.out.size; have HFF := Lib.hid hfr8; clear hb8 hfr8)
    | fail)
  clear l3 f3 z3
  have key := And.intro (st9_own O38.out (.int .i64 (A 0)) (.int .i64 (A 1)) (.int .i64 (A 2)) (.int .i64 (A 3)) (.int .i64 (A 4)) (.int .i64 (A 5)) (.int .i64 (A 6)) (.int .i64 (A 7)) (.slice o8 res.length c8)) (And.intro (st9_below (b := w.heap.size + 1 + 1) BE8.out (by omega) (.int .i64 (A 0)) (.int .i64 (A 1)) (.int .i64 (A 2)) (.int .i64 (A 3)) (.int .i64 (A 4)) (.int .i64 (A 5)) (.int .i64 (A 6)) (.int .i64 (A 7)) (.slice o8 res.length c8)) (HFF.out.set9 z38.out (.int .i64 (A 0)) (.int .i64 (A 1)) (.int .i64 (A 2)) (.int .i64 (A 3)) (.int .i64 (A 4)) (.int .i64 (A 5)) (.int .i64 (A 6)) (.int .i64 (A 7)) (.slice o8 res.length c8)))
  clear O38 BE8 HFF z38
  unfold st9 st8 at key
  revert key
  generalize World.setCell (World.setCell (World.setCell (World.setCell (World.setCell (World.setCell (World.setCell (World.setCell (World.setCell _ _ _) _ _) _ _) _ _) _ _) _ _) _ _) _ _) _ _ = WW
  rintro ⟨of, bf, ff⟩
  have lf := of.cell
  refine bodyPost_ret (v := knV A (.slice o8 res.length c8)) (by simp [results, Try.results11, go_sem, lf]) rfl ⟨_, rfl, ff.mono z37.out, bf⟩

theorem knowWith_calls (K : Kn) (id : ByteArray) (r c : Int) (v : Value) (w : World) (hR : FrW w K.l v) (hid : id.size ≤ maxLen) (hl1 : (flatI (withK K id r c).l).length ≤ 10000) (hl2 : K.l.length ≤ 10000) :
    Calls Try.prog 11 #[knV K.star v, .string id, .agg #[.int .i64 r, .int .i64 c]] w fun e w' => ∃ v', e = .returned (knV K.star v') ∧ FrW w' (plainB (withK K id r c)).l v' ∧ Below w.heap.size w w' := by
  refine (codeWith_calls K id r c v w hR hid hl1 hl2).mono ?_
  rintro e w' ⟨v', rfl, hf, hb⟩
  exact ⟨v', rfl, hf.fr, hb⟩

end Go.Proofs.Ythhbjgecdhogoaa
