/- Joined: KCodeA, KCodeB, LocM1, KCodeD. -/
import Derived.Test.YtjkcooakddlppaaGreatJ29
import Derived.Test.YtjkcooakddlppaaGreatJ28
import Derived.Test.YtjkcooakddlppaaGreatJ22
import Derived.Test.YtjkcooakddlppaaGreatJ21
import Derived.Test.YtjkcooakddlppaaGreatJ23
import Derived.Test.YtjkcooakddlppaaGreatJ24
import Derived.Test.YtjkcooakddlppaaGreatJ10
import Derived.Deep.RegionHeld3
import Derived.Lib.QuietBelow
import Derived.BigQuiet
import Derived.Deep.RegionLaw
/- The code's Has and With of what is known, walked. -/
namespace Go.Proofs.YtjkcooakddlppaaGreat
set_option linter.unusedVariables false
set_option linter.unusedSimpArgs false
set_option maxRecDepth 100000
open Go.RowKit
set_option maxRecDepth 100000 in
set_option maxHeartbeats 2000000 in
theorem knowHas_calls (K : Kn) (id : ByteArray) (r c : Int) (v : Value) (w : World) (hR : FrW w K.l v) (hid : id.size ≤ maxLen) :
    Calls Tryz.prog 26 #[knV K.star v, .string id, .agg #[.int .i64 r, .int .i64 c]] w fun e w' => e = .returned (.bool (hasK K id r c)) ∧ Below w.heap.size w w' := by
  obtain ⟨ov, cv, rfl⟩ := hR.val
  unfold hasK
  obtain ⟨A, l⟩ := K
  simp only at *
  have G1 := Lib.hid (((Own.new w (knA A (.slice ov l.length cv)) 31).alloc (.cells #[.string id] 9)).alloc (.cells #[.int .i64 r, .int .i64 c] 37))
  have G2 := Lib.hid ((Own.newAt (w.alloc (.cells (knA A (.slice ov l.length cv)) 31)) #[.string id] 9 (b := w.heap.size + 1) (by simp)).alloc (.cells #[.int .i64 r, .int .i64 c] 37))
  have G3 := Lib.hid (Own.newAt ((w.alloc (.cells (knA A (.slice ov l.length cv)) 31)).alloc (.cells #[.string id] 9)) #[.int .i64 r, .int .i64 c] 37 (b := w.heap.size + 1 + 1) (by simp))
  have HB0 := Lib.hid ((((Below.refl w.heap.size w).alloc (Nat.le_refl _) (.cells (knA A (.slice ov l.length cv)) 31)).alloc (by simp) (.cells #[.string id] 9)).alloc (by simp; omega) (.cells #[.int .i64 r, .int .i64 c] 37))
  have HR := Lib.hid (hR.later HB0.out (Nat.le_refl _))
  have CH := fun w' => Lib.hid (vecHas_calls A r c w')
  clear hR
  cases hh : hasV A r c
  · have CD := fun w' h => Lib.hid (containsH_calls (hasFr id r c) l (.slice ov l.length cv) (w.heap.size + 1 + 1) (w.heap.size + 1) w' h)
    rw [Bool.false_or]
    go_enter Tryz.func26, Tryz.ntmps26
    go_upto_region 1 with fail
    generalize ((w.alloc (.cells (knA A (.slice ov l.length cv)) 31)).alloc (.cells #[.string id] 9)).alloc (.cells #[.int .i64 r, .int .i64 c] 37) = W at *
    have l1 := G1.out.cell
    have z1 := G1.out.lt
    have l3 := G3.out.cell
    have z3 := G3.out.lt
    have CH1 := CH W
    rw [hh] at CH1
    go_wp2_with (first
      | (go_at_call 71; refine CH1.out.mono ?_; rintro e w3 ⟨rfl, hb3⟩; have l13 := (G1.out.later hb3).cell; have z13 := (G1.out.later hb3).lt; have D := Lib.hid ((CD w3 (HR.out.later hb3 (Nat.le_refl _))).out fun w' hb' k f u hf hu => has1_calls f u r c id _ _ w' hu ((G3.out.later hb3).later hb') ((G2.out.later hb3).later hb')))
      | (go_at_call 72; refine D.out.mono ?_; rintro e w4 ⟨rfl, hb4⟩)
      | fail)
    go_ret
    exact ⟨rfl, HB0.out.trans ((hb3.trans (hb4.mono hb3.size)).mono HB0.out.size)⟩
  · rw [Bool.true_or]
    go_enter Tryz.func26, Tryz.ntmps26
    go_upto_region 1 with fail
    generalize ((w.alloc (.cells (knA A (.slice ov l.length cv)) 31)).alloc (.cells #[.string id] 9)).alloc (.cells #[.int .i64 r, .int .i64 c] 37) = W at *
    have l1 := G1.out.cell
    have z1 := G1.out.lt
    have l3 := G3.out.cell
    have z3 := G3.out.lt
    have CH1 := CH W
    rw [hh] at CH1
    go_wp2_with (go_at_call 71; refine CH1.out.mono ?_; rintro e w3 ⟨rfl, hb3⟩)
    go_ret
    exact ⟨rfl, HB0.out.trans (hb3.mono HB0.out.size)⟩
end Go.Proofs.YtjkcooakddlppaaGreat
/- The code's With of what is known, walked. -/
namespace Go.Proofs.YtjkcooakddlppaaGreat
set_option linter.unusedVariables false
set_option linter.unusedSimpArgs false
set_option maxRecDepth 100000
open Go.RowKit
theorem txOne {w : World} {b : Nat} {id : ByteArray} (h : Own w b #[.string id] 9) (hid : id.size ≤ maxLen) : TxW w [id] (.slice (some ⟨b, 0, none⟩) 1 1) :=
  ⟨some ⟨b, 0, none⟩, 1, b, 0, rfl, by simp, by unfold maxLen; omega, fun _ => ⟨rfl, h.lt⟩, fun k s hk => by
    have : k = 0 := by have := posA hk; simp at this; omega
    subst this
    simp at hk; subst hk
    rw [h.cell]; rfl, fun s hs => by simp at hs; subst hs; exact hid⟩
theorem frOne {w : World} {b : Nat} {f : Fr} {u : Value} (h : Own w b #[u, .int .i64 (f.v 0), .int .i64 (f.v 1), .int .i64 (f.v 2), .int .i64 (f.v 3), .int .i64 (f.v 4), .int .i64 (f.v 5), .int .i64 (f.v 6), .int .i64 (f.v 7)] 115) (hT : TxW w f.ids u) : FrAt w [f] (fun _ => u) (some ⟨b, 0, none⟩) 1 b 0 :=
  ⟨by simp, by unfold maxLen; omega, fun _ => ⟨rfl, h.lt⟩, fun k g hk j z hz => by
    have : k = 0 := by have := posA hk; simp at this; omega
    subst this
    simp at hk; subst hk
    rw [h.cell]
    have hj : j < 9 := (List.getElem?_eq_some_iff.1 hz).1
    rw [← hz]
    obtain rfl | rfl | rfl | rfl | rfl | rfl | rfl | rfl | rfl : j = 0 ∨ j = 1 ∨ j = 2 ∨ j = 3 ∨ j = 4 ∨ j = 5 ∨ j = 6 ∨ j = 7 ∨ j = 8 := by omega
    all_goals rfl, fun k g hk => by
    have : k = 0 := by have := posA hk; simp at this; omega
    subst this
    simp at hk; subst hk
    exact hT⟩
set_option maxRecDepth 100000 in
set_option maxHeartbeats 8000000 in
theorem FrOwn.set9 {w : World} {B b : Nat} {l : List Fr} {v : Value} (h : FrOwn w B l v) (hb : b < B) (c0 c1 c2 c3 c4 c5 c6 c7 c8 : Value) : FrOwn (st9 w b c0 c1 c2 c3 c4 c5 c6 c7 c8) B l v :=
  ((((((((h.setLow (a := ⟨b, 0, none⟩) hb c0).setLow (a := ⟨b, 1, none⟩) hb c1).setLow (a := ⟨b, 2, none⟩) hb c2).setLow (a := ⟨b, 3, none⟩) hb c3).setLow (a := ⟨b, 4, none⟩) hb c4).setLow (a := ⟨b, 5, none⟩) hb c5).setLow (a := ⟨b, 6, none⟩) hb c6).setLow (a := ⟨b, 7, none⟩) hb c7).setLow (a := ⟨b, 8, none⟩) hb c8
set_option maxRecDepth 100000 in
set_option maxHeartbeats 8000000 in
theorem codeWithO_calls (K : Kn) (id : ByteArray) (r c : Int) (v : Value) (w : World) (hR : FrW w K.l v) (hid : id.size ≤ maxLen) (hl1 : (flatI (withK K id r c).l).length ≤ 10000) (hl2 : K.l.length ≤ 10000) :
    Calls Tryz.prog 43 #[knV K.star v, .string id, .agg #[.int .i64 r, .int .i64 c]] w fun e w' => ∃ v', e = .returned (knV K.star v') ∧ FrOwn w' w.heap.size (plainB (withK K id r c)).l v' ∧ Below w.heap.size w w' := by
  obtain ⟨U, ov, cv, b, o, rfl, hF⟩ := hR
  unfold withK at *
  obtain ⟨A, l⟩ := K
  simp only at *
  have CW := fun w' => Lib.hid (show Calls Tryz.prog 94 #[.agg #[.int .i64 0, .int .i64 0, .int .i64 0, .int .i64 0, .int .i64 0, .int .i64 0, .int .i64 0, .int .i64 0], .agg #[.int .i64 r, .int .i64 c]] w' (fun e w'' => e = .returned (vecV (withV zeroV r c)) ∧ Below w'.heap.size w' w'') from vecWith_calls zeroV r c w')
  generalize withV zeroV r c = V at *
  have HF := Lib.hid hF
  have HL := Lib.hid hl1
  have hl3 : l.length + [(⟨[id], V⟩ : Fr)].length ≤ 20000 := by simp; omega
  have CP := fun u w' h => Lib.hid (codePlainO_calls ⟨A, l ++ [⟨[id], V⟩]⟩ u w' h HL.out)
  generalize (plainB ⟨A, l ++ [⟨[id], V⟩]⟩).l = res at *
  have O1 := Lib.hid ((((Own.newAt w (knA A (.slice ov l.length cv)) 31 (b := w.heap.size) (by first | rfl | simp)).alloc (.cells #[.int .i64 r, .int .i64 c] 37)).alloc (.cells (knA zeroV (.slice none 0 0)) 31)).alloc (.cells #[.string id] 9))
  have O2 := Lib.hid (((Own.newAt (w.alloc (.cells (knA A (.slice ov l.length cv)) 31)) #[.int .i64 r, .int .i64 c] 37 (b := w.heap.size + 1) (by first | rfl | simp)).alloc (.cells (knA zeroV (.slice none 0 0)) 31)).alloc (.cells #[.string id] 9))
  have O3 := Lib.hid ((Own.newAt ((w.alloc (.cells (knA A (.slice ov l.length cv)) 31)).alloc (.cells #[.int .i64 r, .int .i64 c] 37)) (knA zeroV (.slice none 0 0)) 31 (b := w.heap.size + 1 + 1) (by first | rfl | simp)).alloc (.cells #[.string id] 9))
  have O4 := Lib.hid (Own.newAt (((w.alloc (.cells (knA A (.slice ov l.length cv)) 31)).alloc (.cells #[.int .i64 r, .int .i64 c] 37)).alloc (.cells (knA zeroV (.slice none 0 0)) 31)) #[.string id] 9 (b := w.heap.size + 1 + 1 + 1) (by first | rfl | simp))
  have BE := Lib.hid (((((Below.refl w.heap.size w).alloc (by first | exact Nat.le_refl _ | (simp; omega) | simp) (.cells (knA A (.slice ov l.length cv)) 31)).alloc (by first | exact Nat.le_refl _ | (simp; omega) | simp) (.cells #[.int .i64 r, .int .i64 c] 37)).alloc (by first | exact Nat.le_refl _ | (simp; omega) | simp) (.cells (knA zeroV (.slice none 0 0)) 31)).alloc (by first | exact Nat.le_refl _ | (simp; omega) | simp) (.cells #[.string id] 9))
  clear hF hl1
  have l2 := O2.out.cell
  have z2 := O2.out.lt
  go_enter Tryz.func43, Tryz.ntmps43
  go_wp2_with (first
    | (go_at_call 94; refine (CW _).out.mono ?_; rintro e w5 ⟨rfl, hb5⟩; clear l2 z2; replace O1 := Lib.hid (O1.out.later hb5); replace O3 := Lib.hid (O3.out.later hb5); replace O4 := Lib.hid (O4.out.later hb5); replace BE := Lib.hid (BE.out.trans (hb5.mono BE.out.size)); clear hb5; have l1 := O1.out.cell; have z1 := O1.out.lt; have P2 := Lib.hid ((Own.newAt (w5.alloc (.cells #[.slice (some ⟨w.heap.size + 1 + 1 + 1, 0, none⟩) 1 1, .int .i64 (V 0), .int .i64 (V 1), .int .i64 (V 2), .int .i64 (V 3), .int .i64 (V 4), .int .i64 (V 5), .int .i64 (V 6), .int .i64 (V 7)] 115)) #[.slice (some ⟨w.heap.size + 1 + 1 + 1, 0, none⟩) 1 1, .int .i64 (V 0), .int .i64 (V 1), .int .i64 (V 2), .int .i64 (V 3), .int .i64 (V 4), .int .i64 (V 5), .int .i64 (V 6), .int .i64 (V 7)] 115 (b := w5.heap.size + 1) (by first | rfl | simp)).alloc (.cells #[.slice ov l.length cv, .slice (some ⟨w5.heap.size + 1, 0, none⟩) 1 1] 29)); have P3 := Lib.hid (Own.newAt ((w5.alloc (.cells #[.slice (some ⟨w.heap.size + 1 + 1 + 1, 0, none⟩) 1 1, .int .i64 (V 0), .int .i64 (V 1), .int .i64 (V 2), .int .i64 (V 3), .int .i64 (V 4), .int .i64 (V 5), .int .i64 (V 6), .int .i64 (V 7)] 115)).alloc (.cells #[.slice (some ⟨w.heap.size + 1 + 1 + 1, 0, none⟩) 1 1, .int .i64 (V 0), .int .i64 (V 1), .int .i64 (V 2), .int .i64 (V 3), .int .i64 (V 4), .int .i64 (V 5), .int .i64 (V 6), .int .i64 (V 7)] 115)) #[.slice ov l.length cv, .slice (some ⟨w5.heap.size + 1, 0, none⟩) 1 1] 29 (b := w5.heap.size + 1 + 1) (by first | rfl | simp)); have PB := Lib.hid ((((Below.refl w5.heap.size w5).alloc (by first | exact Nat.le_refl _ | (simp; omega) | simp) (.cells #[.slice (some ⟨w.heap.size + 1 + 1 + 1, 0, none⟩) 1 1, .int .i64 (V 0), .int .i64 (V 1), .int .i64 (V 2), .int .i64 (V 3), .int .i64 (V 4), .int .i64 (V 5), .int .i64 (V 6), .int .i64 (V 7)] 115)).alloc (by first | exact Nat.le_refl _ | (simp; omega) | simp) (.cells #[.slice (some ⟨w.heap.size + 1 + 1 + 1, 0, none⟩) 1 1, .int .i64 (V 0), .int .i64 (V 1), .int .i64 (V 2), .int .i64 (V 3), .int .i64 (V 4), .int .i64 (V 5), .int .i64 (V 6), .int .i64 (V 7)] 115)).alloc (by first | exact Nat.le_refl _ | (simp; omega) | simp) (.cells #[.slice ov l.length cv, .slice (some ⟨w5.heap.size + 1, 0, none⟩) 1 1] 29)); have TX := Lib.hid (txOne (O4.out.later PB.out) hid); have CC := Lib.hid (concat_row l [⟨[id], V⟩] U (fun _ => .slice (some ⟨w.heap.size + 1 + 1 + 1, 0, none⟩) 1 1) ov (some ⟨w5.heap.size + 1, 0, none⟩) cv 1 b (w5.heap.size + 1) o 0 (w5.heap.size + 1 + 1) _ P3.out.lt (P3.out.cell 0) (P3.out.cell 1) (HF.out.later (BE.out.trans (PB.out.mono BE.out.size)) (Nat.le_refl _)) (frOne (f := ⟨[id], V⟩) P2.out TX.out) hl3))
    | (go_at_call 95; refine CC.out.mono ?_; rintro e w7 ⟨u, rfl, hrow, hb7⟩; obtain ⟨ou, cu, gu, rfl, _, _, _⟩ := row_slice hrow; clear l1 z1; have HB57 := Lib.hid (PB.out.trans (hb7.mono PB.out.size)); replace O1 := Lib.hid (O1.out.later HB57.out); replace O3 := Lib.hid (O3.out.later HB57.out); replace O4 := Lib.hid (O4.out.later HB57.out); have BE7 := Lib.hid (BE.out.trans (HB57.out.mono BE.out.size)); have HROW := Lib.hid hrow; clear hrow hb7; have l1 := O1.out.cell; have f1 := O1.out.free; have z1 := O1.out.lt; have BS := Lib.hid (BE7.out.setCell (p := ⟨w.heap.size, 8, none⟩) (Nat.le_refl _) (.slice ou (l ++ [(⟨[id], V⟩ : Fr)]).length cu)); have HFR := Lib.hid (bothFr (ownsRow_setCell_below HROW.out (a := ⟨w.heap.size, 8, none⟩) (by have := BE.out.size; simp; omega) (.slice ou (l ++ [(⟨[id], V⟩ : Fr)]).length cu)) (fun k f hf => (HF.out.ids k f hf).later BS.out (Nat.le_refl _)) (fun k f hf => by (have : k = 0 := by have := posA hf; simp at this; omega); subst this; simp at hf; subst hf; exact txOne (O4.out.setFar _ _ (by show w.heap.size + 1 + 1 + 1 ≠ w.heap.size; omega)) hid)); have HP := CP _ _ HFR.out; have O3S := Lib.hid (O3.out.setFar ⟨w.heap.size, 8, none⟩ (.slice ou (l ++ [(⟨[id], V⟩ : Fr)]).length cu) (by show w.heap.size + 1 + 1 ≠ w.heap.size; omega)); clear HFR CC PB P2 P3 TX O4; generalize (l ++ [(⟨[id], V⟩ : Fr)]).length = n9 at *)
    | (go_at_call 96; refine HP.out.mono ?_; rintro e w8 ⟨v8, rfl, hfr8, hb8⟩; obtain ⟨o8, c8, rfl⟩ := hfr8.fr.val; clear l1 f1 z1; have O38 := Lib.hid (O3S.out.later hb8); have BE8 := Lib.hid (BS.out.trans (hb8.mono BS.out.size)); have l3 := O38.out.cell; have f3 := O38.out.free; have z3 := O38.out.lt; have z38 := Lib.hid (O3S.out.lt); have z37 := Lib.hid BS.out.size; have HFF := Lib.hid hfr8; clear hb8 hfr8)
    | fail)
  clear l3 f3 z3
  have key := And.intro (st9_own O38.out (.int .i64 (A 0)) (.int .i64 (A 1)) (.int .i64 (A 2)) (.int .i64 (A 3)) (.int .i64 (A 4)) (.int .i64 (A 5)) (.int .i64 (A 6)) (.int .i64 (A 7)) (.slice o8 res.length c8)) (And.intro (st9_below (b := w.heap.size + 1 + 1) BE8.out (by omega) (.int .i64 (A 0)) (.int .i64 (A 1)) (.int .i64 (A 2)) (.int .i64 (A 3)) (.int .i64 (A 4)) (.int .i64 (A 5)) (.int .i64 (A 6)) (.int .i64 (A 7)) (.slice o8 res.length c8)) (HFF.out.set9 z38.out (.int .i64 (A 0)) (.int .i64 (A 1)) (.int .i64 (A 2)) (.int .i64 (A 3)) (.int .i64 (A 4)) (.int .i64 (A 5)) (.int .i64 (A 6)) (.int .i64 (A 7)) (.slice o8 res.length c8)))
  clear O38 BE8 HFF z38
  unfold st9 st8 at key
  revert key
  generalize World.setCell (World.setCell (World.setCell (World.setCell (World.setCell (World.setCell (World.setCell (World.setCell (World.setCell _ _ _) _ _) _ _) _ _) _ _) _ _) _ _) _ _) _ _ = WW
  rintro ⟨of, bf, ff⟩
  have lf := of.cell
  refine bodyPost_ret (v := knV A (.slice o8 res.length c8)) (by simp [results, Tryz.results43, go_sem, lf]) rfl ⟨_, rfl, ff.mono z37.out, bf⟩
theorem codeWith_calls (K : Kn) (id : ByteArray) (r c : Int) (v : Value) (w : World) (hR : FrW w K.l v) (hid : id.size ≤ maxLen) (hl1 : (flatI (withK K id r c).l).length ≤ 10000) (hl2 : K.l.length ≤ 10000) :
    Calls Tryz.prog 43 #[knV K.star v, .string id, .agg #[.int .i64 r, .int .i64 c]] w fun e w' => ∃ v', e = .returned (knV K.star v') ∧ FrFresh w' w.heap.size (plainB (withK K id r c)).l v' ∧ Below w.heap.size w w' :=
  (codeWithO_calls K id r c v w hR hid hl1 hl2).mono fun _ _ ⟨v', he, hf, hb⟩ => ⟨v', he, hf.fresh, hb⟩
end Go.Proofs.YtjkcooakddlppaaGreat
/- The code's local: within, the closures that look at a state, slices.ContainsFunc over them. Walked. -/
namespace Go.Proofs.YtjkcooakddlppaaGreat
set_option linter.unusedVariables false
set_option linter.unusedSimpArgs false
set_option maxRecDepth 100000
open Go.RowKit
theorem wpList_load_mid_g {P : Program} {ops : Array Oper} {rest : List Oper} {op : Oper} {a : Act} {w : World} {Q : Exit → Act → World → Prop} (hw : Region.wanted op (yielded ops a.tmps) = true) (ty : TypeId) (x : Operand) (ho : op.op = .load ty x)
    (b o : Nat) (hx : a.eval x = .pointer (some ⟨b, o, none⟩)) (cs : List Value) (d : TypeDesc) (hc : w.rangeAt b o cs)
    (hu : P.underlying ty = some d) (hd : d.isRow = true) (hi : (P.info? ty).map (·.size) = some cs.length)
    (h : wpList P ops Q rest (a.put op.dst (.agg cs.toArray)) w) : wpList P ops Q (op :: rest) a w :=
  wpList_step fun K hK => by rw [if_pos hw]; exact wp_load_mid ty x ho b o hx cs d hc hu hd hi (hK _ _ h)
theorem locWithin_calls (n a b : Int) (w : World) :
    Calls Tryz.prog 56 #[.int .i64 n, .int .i64 a, .int .i64 b] w fun e w' => e = .returned (.bool (inB n a b)) ∧ w = w' := by
  unfold inB
  by_cases h : a ≤ n <;> by_cases h' : n ≤ b <;>
  ( go_enter Tryz.func56, Tryz.ntmps56
    go_wp2
    go_ret
    exact ⟨ret_bool (by simp [h, h']), rfl⟩ )
theorem hasX_calls (x : Itm) (p : Pr) (v : Value) (w : World) (hL : LP w p v) (hx : x.id.size ≤ maxLen) :
    Calls Tryz.prog 93 #[prV p v, iV x] w fun e w' => e = .returned (.bool (hasT p x)) ∧ Below w.heap.size w w' := has_calls x.it x.r x.c x.st x.d hx p v w hL
def strayB (s : St) (x : Itm) : Bool := (getI s.out x.id).2 || !hasT s.f x
def strangeB (s : St) (x : Itm) : Bool := decide (x.st > s.clock) || !hasK s.k x.id x.r x.c
def aheadB (s : St) (k : Nat) (f : Fr) : Bool := decide (f.v k > s.count)
structure StO (w : World) (s : St) (fv sv ov kv : Value) (b : Nat) : Prop where
  o : Own w b (stA s fv sv ov kv) 46
  w : StW w s fv sv ov kv
theorem StO.later {w w' : World} {s : St} {fv sv ov kv : Value} {b : Nat} (h : StO w s fv sv ov kv b) (hb : Below w.heap.size w w') : StO w' s fv sv ov kv b := ⟨h.o.later hb, h.w.later hb⟩
theorem StO.alloc {w : World} {s : St} {fv sv ov kv : Value} {b : Nat} (h : StO w s fv sv ov kv b) (o : Obj) : StO (w.alloc o) s fv sv ov kv b := ⟨h.o.alloc o, h.w.alloc o⟩
theorem StO.drew {w : World} {s : St} {fv sv ov kv : Value} {b : Nat} (h : StO w s fv sv ov kv b) : StO w.drew s fv sv ov kv b := ⟨h.o.drew, h.w.drew⟩
set_option maxHeartbeats 4000000 in
theorem inside_calls (s : St) (fv sv ov kv : Value) (b : Nat) (x : Itm) (w : World) (hO : StO w s fv sv ov kv b) (hx : x.id.size ≤ maxLen) :
    Calls Tryz.prog 116 #[iV x, .pointer (some ⟨b, 0, none⟩)] w fun e w' => e = .returned (.bool (hasT s.f x)) ∧ Below w.heap.size w w' := by
  obtain ⟨of_, cf, rfl⟩ := lies_val hO.w.lf
  have OX := Lib.hid (Own.new w (iA x) 49)
  have OS := Lib.hid (hO.alloc (.cells (iA x) 49))
  have BE := Lib.hid ((Below.refl w.heap.size w).alloc (Nat.le_refl _) (.cells (iA x) 49))
  have CH := Lib.hid (hasX_calls x s.f _ _ OS.out.w.lf hx)
  have lx := OX.out.cell
  have ls := OS.out.o.cell
  have zs := OS.out.o.lt
  clear hO
  generalize hasT s.f x = hb at *
  go_enter Tryz.func116, Tryz.ntmps116
  go_wp2_with (go_at_call 93; refine CH.out.mono ?_; rintro e w3 ⟨rfl, hb3⟩)
  go_ret
  exact ⟨rfl, BE.out.trans (hb3.mono BE.out.size)⟩
set_option maxHeartbeats 4000000 in
theorem astray_calls (s : St) (fv sv ov kv : Value) (b : Nat) (x : Itm) (w : World) (hO : StO w s fv sv ov kv b) (hr : RiseI s.out) (hl : s.out.length ≤ 1000) (hx : x.id.size ≤ maxLen) :
    Calls Tryz.prog 115 #[iV x, .pointer (some ⟨b, 0, none⟩)] w fun e w' => e = .returned (.bool (strayB s x)) ∧ Below w.heap.size w w' := by
  obtain ⟨of_, cf, rfl⟩ := lies_val hO.w.lf
  obtain ⟨oo, co, rfl⟩ := hO.w.lo.val
  have OX := Lib.hid (Own.new w (iA x) 49)
  have OS := Lib.hid (hO.alloc (.cells (iA x) 49))
  have BE := Lib.hid ((Below.refl w.heap.size w).alloc (Nat.le_refl _) (.cells (iA x) 49))
  have CG := Lib.hid (listGet_calls s.out x.id _ _ OS.out.w.lo hr hl hx)
  have lx := OX.out.cell
  have zx := OX.out.lt
  have ls := OS.out.o.cell
  have zs := OS.out.o.lt
  have e : strayB s x = ((getI s.out x.id).2 || !hasT s.f x) := rfl
  rw [e]
  clear hO e
  have CH := fun w' h => Lib.hid (hasX_calls x s.f (.slice of_ s.f.kids.length cf) w' h hx)
  generalize hasT s.f x = hb at *
  generalize (getI s.out x.id).1 = y at *
  cases hg : (getI s.out x.id).2
  · rw [hg] at CG
    go_enter Tryz.func115, Tryz.ntmps115
    go_upto_region 2 with (go_at_call 40; refine CG.out.mono ?_; rintro e w3 ⟨rfl, hb3⟩; clear lx zx ls zs; replace OX := Lib.hid (OX.out.later hb3); replace OS := Lib.hid (OS.out.later hb3); replace BE := Lib.hid (BE.out.trans (hb3.mono BE.out.size)); clear hb3)
    replace OX := Lib.hid (OX.out.alloc (.cells (iA y) 49))
    replace OS := Lib.hid (OS.out.alloc (.cells (iA y) 49))
    replace BE := Lib.hid (BE.out.alloc BE.out.size (.cells (iA y) 49))
    have lx := OX.out.cell
    have zx := OX.out.lt
    have ls := OS.out.o.cell
    have zs := OS.out.o.lt
    have CH := CH _ OS.out.w.lf
    go_wp2_with (go_at_call 93; refine CH.out.mono ?_; rintro e w4 ⟨rfl, hb4⟩)
    go_ret
    exact ⟨ret_bool (by simp), BE.out.trans (hb4.mono BE.out.size)⟩
  · rw [hg] at CG
    go_enter Tryz.func115, Tryz.ntmps115
    go_wp2_with (go_at_call 40; refine CG.out.mono ?_; rintro e w3 ⟨rfl, hb3⟩)
    go_ret
    exact ⟨ret_bool (by simp), (BE.out.trans (hb3.mono BE.out.size)).alloc (by have := BE.out.size; have := hb3.size; omega) _⟩
set_option maxHeartbeats 4000000 in
theorem strange_calls (s : St) (fv sv ov kv : Value) (b : Nat) (x : Itm) (w : World) (hO : StO w s fv sv ov kv b) (hx : x.id.size ≤ maxLen) :
    Calls Tryz.prog 121 #[iV x, .pointer (some ⟨b, 0, none⟩)] w fun e w' => e = .returned (.bool (strangeB s x)) ∧ Below w.heap.size w w' := by
  obtain ⟨ok, ck, rfl⟩ := hO.w.lk.val
  have OX := Lib.hid (Own.new w (iA x) 49)
  have OS := Lib.hid (hO.alloc (.cells (iA x) 49))
  have BE := Lib.hid ((Below.refl w.heap.size w).alloc (Nat.le_refl _) (.cells (iA x) 49))
  have CK := Lib.hid (knowHas_calls s.k x.id x.r x.c _ _ OS.out.w.lk hx)
  have lx := OX.out.cell
  have zx := OX.out.lt
  have ls := OS.out.o.cell
  have zs := OS.out.o.lt
  clear hO
  unfold strangeB
  by_cases h : x.st > s.clock
  · go_enter Tryz.func121, Tryz.ntmps121
    go_wp2_with fail
    go_ret
    exact ⟨ret_bool (by simp [h]), BE.out⟩
  · generalize hasK s.k x.id x.r x.c = hb at *
    have h' : decide (s.clock < x.st) = false := decide_eq_false (by omega)
    go_enter Tryz.func121, Tryz.ntmps121
    go_wp2_with (go_at_call 26; refine CK.out.mono ?_; rintro e w3 ⟨rfl, hb3⟩)
    go_ret
    exact ⟨ret_bool (by simp [h']), BE.out.trans (hb3.mono BE.out.size)⟩
theorem fA_get (f : Fr) (u : Value) {k : Nat} (hk : k < 8) : (#[u, .int .i64 (f.v 0), .int .i64 (f.v 1), .int .i64 (f.v 2), .int .i64 (f.v 3), .int .i64 (f.v 4), .int .i64 (f.v 5), .int .i64 (f.v 6), .int .i64 (f.v 7)] : Array Value)[1 + k]? = some (.int .i64 (f.v k)) := by
  match k, hk with
  | 0, _ | 1, _ | 2, _ | 3, _ | 4, _ | 5, _ | 6, _ | 7, _ => rfl
theorem stA_star (s : St) (fv sv ov kv : Value) {k : Nat} (hk : k < 8) : (stA s fv sv ov kv)[8 + k]? = some (.int .i64 (s.k.star k)) := by
  match k, hk with
  | 0, _ | 1, _ | 2, _ | 3, _ | 4, _ | 5, _ | 6, _ | 7, _ => rfl
set_option maxHeartbeats 4000000 in
theorem ahead_calls (s : St) (fv sv ov kv : Value) (b k : Nat) (hk : k < 8) (hr : s.r = (k : Int) + 1) (f : Fr) (u : Value) (w : World) (hO : Own w b (stA s fv sv ov kv) 46) (hT : TxW w f.ids u) :
    Calls Tryz.prog 122 #[frV f u, .pointer (some ⟨b, 0, none⟩)] w fun e w' => e = .returned (.bool (aheadB s k f)) ∧ Below w.heap.size w w' := by
  obtain ⟨ou, cu, rfl⟩ := hT.val
  have OX := Lib.hid (Own.new w #[.slice ou f.ids.length cu, .int .i64 (f.v 0), .int .i64 (f.v 1), .int .i64 (f.v 2), .int .i64 (f.v 3), .int .i64 (f.v 4), .int .i64 (f.v 5), .int .i64 (f.v 6), .int .i64 (f.v 7)] 115)
  have OS := Lib.hid (hO.alloc (.cells #[.slice ou f.ids.length cu, .int .i64 (f.v 0), .int .i64 (f.v 1), .int .i64 (f.v 2), .int .i64 (f.v 3), .int .i64 (f.v 4), .int .i64 (f.v 5), .int .i64 (f.v 6), .int .i64 (f.v 7)] 115))
  have BE := Lib.hid ((Below.refl w.heap.size w).alloc (Nat.le_refl _) (.cells #[.slice ou f.ids.length cu, .int .i64 (f.v 0), .int .i64 (f.v 1), .int .i64 (f.v 2), .int .i64 (f.v 3), .int .i64 (f.v 4), .int .i64 (f.v 5), .int .i64 (f.v 6), .int .i64 (f.v 7)] 115))
  have LX := fun dd os => (OX.out.has.regrown dd os (1 + k)).trans (fA_get f _ hk)
  have LS := fun dd os => (OS.out.has.regrown dd os 0).trans (show _ = some (Value.int .i64 ((k : Int) + 1)) from by rw [← hr]; rfl)
  have LT := fun dd os => (OS.out.has.regrown dd os 17).trans (show _ = some (Value.int .i64 s.count) from rfl)
  have zx := OX.out.lt
  have zs := OS.out.lt
  unfold aheadB
  have k0 : (0 : Int) ≤ (k : Int) := by omega
  have k1 : (k : Int) < 8 := by omega
  have k2 : (k : Int) + 1 - 1 = k := by omega
  clear hO hT hr
  generalize f.v k = fk at *
  go_enter Tryz.func122, Tryz.ntmps122
  go_wp2_with fail
  refine wp_region_quiet_below (by kernel_rfl) (by kernel_rfl) ?_
  repeat (first | go_big_quiet_step (fail) | quiet_step (fail))
  refine wpQuiet_nil ?_
  intro w7 hw'
  have hb7 := regrown_below hw'
  clear hw' LX LS LT
  go_wp2_with fail
  go_ret
  exact ⟨rfl, BE.out.trans (hb7.mono BE.out.size)⟩
/-! ### slices.IndexFunc, ContainsFunc of items -/
theorem any_takeI {P : Itm → Bool} {l : List Itm} {k : Nat} {f : Itm} (hf : l[k]? = some f) (h : (l.take k).any P = false) (hs : P f = false) : (l.take (k + 1)).any P = false := by
  rw [takeI hf, List.any_append, h]; simp [hs]
def FstI (P : Itm → Bool) (l : List Itm) (n : Int) : Prop := (∃ (k : Nat) (x : Itm), l[k]? = some x ∧ P x = true ∧ n = k ∧ (l.take k).any P = false) ∨ (n = -1 ∧ l.any P = false)
theorem FstI.any {P : Itm → Bool} {l : List Itm} {n : Int} (h : FstI P l n) : decide (0 ≤ n) = l.any P := by
  rcases h with ⟨k, x, hx, hp, rfl, _⟩ | ⟨rfl, h⟩
  · rw [List.any_eq_true.2 ⟨x, List.mem_of_getElem? hx, hp⟩]; simp
  · rw [h]; rfl
def AiRel (P : Itm → Bool) (l : List Itm) (n : Nat) (w0 : World) (i : Value) (wr : World) : Prop := ∃ k : Nat, k ≤ n ∧ i = .int .i64 k ∧ Hid ((l.take k).any P = false) ∧ Hid (Below w0.heap.size w0 wr)
set_option maxHeartbeats 4000000 in
theorem indexAstray_calls (P : Itm → Bool) (l : List Itm) (v : Value) (bx : Nat) (w : World) (hR : Row 8 ic w l v) (C : ∀ w', Below w.heap.size w w' → ∀ x ∈ l, Calls Tryz.prog 115 #[iV x, .pointer (some ⟨bx, 0, none⟩)] w' fun e w'' => e = .returned (.bool (P x)) ∧ Below w'.heap.size w' w'') :
    Calls Tryz.prog 155 #[v, .func (Fn.func 115) #[] #[.pointer (some ⟨bx, 0, none⟩)]] w fun e w' => ∃ n : Int, e = .returned (.int .i64 n) ∧ FstI P l n ∧ Below w.heap.size w w' := by
  obtain ⟨oa, cap, b, o, rfl, hF⟩ := hR
  have h1 := hF.len
  have h2 := hF.max
  unfold maxLen at h2
  have HF := Lib.hid hF
  have HC := Lib.hid C
  clear hF C
  generalize hn : l.length = n at *
  have HN := Lib.hid hn
  clear hn
  go_enter Tryz.func155, Tryz.ntmps155
  go_wp2_with fail
  go_loopw [8] (fun i wr => AiRel P l n w i wr) (fun i _ => n - (intOf i).toNat)
  case atStart => exact ⟨0, Nat.zero_le _, rfl, by simp [Hid], Lib.hid (Below.refl _ _)⟩
  case round =>
    obtain ⟨k, hk, rfl, HS, HB⟩ := hrel
    by_cases hlt : k < n
    · obtain ⟨x, hx⟩ : ∃ x, l[k]? = some x := ⟨_, List.getElem?_eq_getElem (by rw [HN.out]; exact hlt)⟩
      obtain ⟨rfl, hb⟩ := HF.out.at0 (by rw [HN.out]; omega)
      obtain ⟨c0, c1, c2, c3, c4, c5, c6, c7⟩ := ic_cells (w := wr) (fun j u hu => (HB.out.cell (p := ⟨b, o + k * 8 + j, none⟩) hb).trans (HF.out.cell k x hx j u hu))
      have zb : b < wr.heap.size := Nat.lt_of_lt_of_le hb HB.out.size
      have CC := Lib.hid (HC.out wr HB.out x (List.mem_of_getElem? hx))
      have HX := Lib.hid hx
      clear hx
      cases hs : P x
      · rw [hs] at CC
        have HY := Lib.hid (any_takeI HX.out HS.out hs)
        clear HS
        go_wp2_with (go_at_call 115; refine CC.out.mono ?_; rintro e w' ⟨rfl, hb'⟩)
        go_roundw
        case rel => exact ⟨k + 1, by omega, by go_num, HY, Lib.hid (HB.out.trans (hb'.mono HB.out.size))⟩
        case measure => simp [intOf]; omega
      · rw [hs] at CC
        have HY := Lib.hid hs
        go_wp2_with (go_at_call 115; refine CC.out.mono ?_; rintro e w' ⟨rfl, hb'⟩)
        go_ret
        exact ⟨_, rfl, .inl ⟨k, x, HX.out, HY.out, rfl, HS.out⟩, HB.out.trans (hb'.mono HB.out.size)⟩
    · have h := HS.out
      rw [List.take_of_length_le (by rw [HN.out]; omega)] at h
      have HY := Lib.hid h
      clear h HS
      go_wp2_with fail
      go_ret
      exact ⟨_, rfl, .inr ⟨rfl, HY.out⟩, HB.out⟩
set_option maxHeartbeats 4000000 in
theorem containsAstray_calls (P : Itm → Bool) (l : List Itm) (v : Value) (bx : Nat) (w : World) (hR : Row 8 ic w l v) (C : ∀ w', Below w.heap.size w w' → ∀ x ∈ l, Calls Tryz.prog 115 #[iV x, .pointer (some ⟨bx, 0, none⟩)] w' fun e w'' => e = .returned (.bool (P x)) ∧ Below w'.heap.size w' w'') :
    Calls Tryz.prog 117 #[v, .func (Fn.func 115) #[] #[.pointer (some ⟨bx, 0, none⟩)]] w fun e w' => e = .returned (.bool (l.any P)) ∧ Below w.heap.size w w' := by
  have D := Lib.hid (indexAstray_calls P l v bx w hR C)
  obtain ⟨oa, cap, rfl⟩ := hR.val
  clear hR C
  go_enter Tryz.func117, Tryz.ntmps117
  go_wp2_with (go_at_call 155; refine D.out.mono ?_; rintro e w' ⟨n, rfl, hn, hb⟩)
  go_ret
  have hn := hn.any
  first | exact ⟨ret_bool hn, hb⟩ | exact ⟨rfl, hb⟩
set_option maxHeartbeats 4000000 in
theorem indexInside_calls (P : Itm → Bool) (l : List Itm) (v : Value) (bx : Nat) (w : World) (hR : Row 8 ic w l v) (C : ∀ w', Below w.heap.size w w' → ∀ x ∈ l, Calls Tryz.prog 116 #[iV x, .pointer (some ⟨bx, 0, none⟩)] w' fun e w'' => e = .returned (.bool (P x)) ∧ Below w'.heap.size w' w'') :
    Calls Tryz.prog 155 #[v, .func (Fn.func 116) #[] #[.pointer (some ⟨bx, 0, none⟩)]] w fun e w' => ∃ n : Int, e = .returned (.int .i64 n) ∧ FstI P l n ∧ Below w.heap.size w w' := by
  obtain ⟨oa, cap, b, o, rfl, hF⟩ := hR
  have h1 := hF.len
  have h2 := hF.max
  unfold maxLen at h2
  have HF := Lib.hid hF
  have HC := Lib.hid C
  clear hF C
  generalize hn : l.length = n at *
  have HN := Lib.hid hn
  clear hn
  go_enter Tryz.func155, Tryz.ntmps155
  go_wp2_with fail
  go_loopw [8] (fun i wr => AiRel P l n w i wr) (fun i _ => n - (intOf i).toNat)
  case atStart => exact ⟨0, Nat.zero_le _, rfl, by simp [Hid], Lib.hid (Below.refl _ _)⟩
  case round =>
    obtain ⟨k, hk, rfl, HS, HB⟩ := hrel
    by_cases hlt : k < n
    · obtain ⟨x, hx⟩ : ∃ x, l[k]? = some x := ⟨_, List.getElem?_eq_getElem (by rw [HN.out]; exact hlt)⟩
      obtain ⟨rfl, hb⟩ := HF.out.at0 (by rw [HN.out]; omega)
      obtain ⟨c0, c1, c2, c3, c4, c5, c6, c7⟩ := ic_cells (w := wr) (fun j u hu => (HB.out.cell (p := ⟨b, o + k * 8 + j, none⟩) hb).trans (HF.out.cell k x hx j u hu))
      have zb : b < wr.heap.size := Nat.lt_of_lt_of_le hb HB.out.size
      have CC := Lib.hid (HC.out wr HB.out x (List.mem_of_getElem? hx))
      have HX := Lib.hid hx
      clear hx
      cases hs : P x
      · rw [hs] at CC
        have HY := Lib.hid (any_takeI HX.out HS.out hs)
        clear HS
        go_wp2_with (go_at_call 116; refine CC.out.mono ?_; rintro e w' ⟨rfl, hb'⟩)
        go_roundw
        case rel => exact ⟨k + 1, by omega, by go_num, HY, Lib.hid (HB.out.trans (hb'.mono HB.out.size))⟩
        case measure => simp [intOf]; omega
      · rw [hs] at CC
        have HY := Lib.hid hs
        go_wp2_with (go_at_call 116; refine CC.out.mono ?_; rintro e w' ⟨rfl, hb'⟩)
        go_ret
        exact ⟨_, rfl, .inl ⟨k, x, HX.out, HY.out, rfl, HS.out⟩, HB.out.trans (hb'.mono HB.out.size)⟩
    · have h := HS.out
      rw [List.take_of_length_le (by rw [HN.out]; omega)] at h
      have HY := Lib.hid h
      clear h HS
      go_wp2_with fail
      go_ret
      exact ⟨_, rfl, .inr ⟨rfl, HY.out⟩, HB.out⟩
set_option maxHeartbeats 4000000 in
theorem containsInside_calls (P : Itm → Bool) (l : List Itm) (v : Value) (bx : Nat) (w : World) (hR : Row 8 ic w l v) (C : ∀ w', Below w.heap.size w w' → ∀ x ∈ l, Calls Tryz.prog 116 #[iV x, .pointer (some ⟨bx, 0, none⟩)] w' fun e w'' => e = .returned (.bool (P x)) ∧ Below w'.heap.size w' w'') :
    Calls Tryz.prog 117 #[v, .func (Fn.func 116) #[] #[.pointer (some ⟨bx, 0, none⟩)]] w fun e w' => e = .returned (.bool (l.any P)) ∧ Below w.heap.size w w' := by
  have D := Lib.hid (indexInside_calls P l v bx w hR C)
  obtain ⟨oa, cap, rfl⟩ := hR.val
  clear hR C
  go_enter Tryz.func117, Tryz.ntmps117
  go_wp2_with (go_at_call 155; refine D.out.mono ?_; rintro e w' ⟨n, rfl, hn, hb⟩)
  go_ret
  have hn := hn.any
  first | exact ⟨ret_bool hn, hb⟩ | exact ⟨rfl, hb⟩
set_option maxHeartbeats 4000000 in
theorem indexStrange_calls (P : Itm → Bool) (l : List Itm) (v : Value) (bx : Nat) (w : World) (hR : Row 8 ic w l v) (C : ∀ w', Below w.heap.size w w' → ∀ x ∈ l, Calls Tryz.prog 121 #[iV x, .pointer (some ⟨bx, 0, none⟩)] w' fun e w'' => e = .returned (.bool (P x)) ∧ Below w'.heap.size w' w'') :
    Calls Tryz.prog 155 #[v, .func (Fn.func 121) #[] #[.pointer (some ⟨bx, 0, none⟩)]] w fun e w' => ∃ n : Int, e = .returned (.int .i64 n) ∧ FstI P l n ∧ Below w.heap.size w w' := by
  obtain ⟨oa, cap, b, o, rfl, hF⟩ := hR
  have h1 := hF.len
  have h2 := hF.max
  unfold maxLen at h2
  have HF := Lib.hid hF
  have HC := Lib.hid C
  clear hF C
  generalize hn : l.length = n at *
  have HN := Lib.hid hn
  clear hn
  go_enter Tryz.func155, Tryz.ntmps155
  go_wp2_with fail
  go_loopw [8] (fun i wr => AiRel P l n w i wr) (fun i _ => n - (intOf i).toNat)
  case atStart => exact ⟨0, Nat.zero_le _, rfl, by simp [Hid], Lib.hid (Below.refl _ _)⟩
  case round =>
    obtain ⟨k, hk, rfl, HS, HB⟩ := hrel
    by_cases hlt : k < n
    · obtain ⟨x, hx⟩ : ∃ x, l[k]? = some x := ⟨_, List.getElem?_eq_getElem (by rw [HN.out]; exact hlt)⟩
      obtain ⟨rfl, hb⟩ := HF.out.at0 (by rw [HN.out]; omega)
      obtain ⟨c0, c1, c2, c3, c4, c5, c6, c7⟩ := ic_cells (w := wr) (fun j u hu => (HB.out.cell (p := ⟨b, o + k * 8 + j, none⟩) hb).trans (HF.out.cell k x hx j u hu))
      have zb : b < wr.heap.size := Nat.lt_of_lt_of_le hb HB.out.size
      have CC := Lib.hid (HC.out wr HB.out x (List.mem_of_getElem? hx))
      have HX := Lib.hid hx
      clear hx
      cases hs : P x
      · rw [hs] at CC
        have HY := Lib.hid (any_takeI HX.out HS.out hs)
        clear HS
        go_wp2_with (go_at_call 121; refine CC.out.mono ?_; rintro e w' ⟨rfl, hb'⟩)
        go_roundw
        case rel => exact ⟨k + 1, by omega, by go_num, HY, Lib.hid (HB.out.trans (hb'.mono HB.out.size))⟩
        case measure => simp [intOf]; omega
      · rw [hs] at CC
        have HY := Lib.hid hs
        go_wp2_with (go_at_call 121; refine CC.out.mono ?_; rintro e w' ⟨rfl, hb'⟩)
        go_ret
        exact ⟨_, rfl, .inl ⟨k, x, HX.out, HY.out, rfl, HS.out⟩, HB.out.trans (hb'.mono HB.out.size)⟩
    · have h := HS.out
      rw [List.take_of_length_le (by rw [HN.out]; omega)] at h
      have HY := Lib.hid h
      clear h HS
      go_wp2_with fail
      go_ret
      exact ⟨_, rfl, .inr ⟨rfl, HY.out⟩, HB.out⟩
set_option maxHeartbeats 4000000 in
theorem containsStrange_calls (P : Itm → Bool) (l : List Itm) (v : Value) (bx : Nat) (w : World) (hR : Row 8 ic w l v) (C : ∀ w', Below w.heap.size w w' → ∀ x ∈ l, Calls Tryz.prog 121 #[iV x, .pointer (some ⟨bx, 0, none⟩)] w' fun e w'' => e = .returned (.bool (P x)) ∧ Below w'.heap.size w' w'') :
    Calls Tryz.prog 117 #[v, .func (Fn.func 121) #[] #[.pointer (some ⟨bx, 0, none⟩)]] w fun e w' => e = .returned (.bool (l.any P)) ∧ Below w.heap.size w w' := by
  have D := Lib.hid (indexStrange_calls P l v bx w hR C)
  obtain ⟨oa, cap, rfl⟩ := hR.val
  clear hR C
  go_enter Tryz.func117, Tryz.ntmps117
  go_wp2_with (go_at_call 155; refine D.out.mono ?_; rintro e w' ⟨n, rfl, hn, hb⟩)
  go_ret
  have hn := hn.any
  first | exact ⟨ret_bool hn, hb⟩ | exact ⟨rfl, hb⟩
set_option maxHeartbeats 2000000 in
theorem indexAhead_calls (P : Fr → Bool) (l : List Fr) (v : Value) (bx : Nat) (w : World) (hR : FrW w l v) (C : ∀ w', Below w.heap.size w w' → ∀ (k : Nat) (f : Fr) (u : Value), l[k]? = some f → TxW w' f.ids u → Calls Tryz.prog 122 #[frV f u, .pointer (some ⟨bx, 0, none⟩)] w' fun e w'' => e = .returned (.bool (P f)) ∧ Below w'.heap.size w' w'') :
    Calls Tryz.prog 124 #[v, .func (Fn.func 122) #[] #[.pointer (some ⟨bx, 0, none⟩)]] w fun e w' => ∃ n : Int, e = .returned (.int .i64 n) ∧ decide (0 ≤ n) = l.any P ∧ Below w.heap.size w w' := by
  obtain ⟨U, oa, cap, b, o, rfl, hF⟩ := hR
  have h1 := hF.len
  have h2 := hF.max
  unfold maxLen at h2
  have HF := Lib.hid hF
  have HC := Lib.hid C
  clear hF C
  generalize hn : l.length = n at *
  have HN := Lib.hid hn
  clear hn
  go_enter Tryz.func124, Tryz.ntmps124
  go_wp2_with fail
  go_loopw [8] (fun i wr => AfRel P l n w i wr) (fun i _ => n - (intOf i).toNat)
  case atStart => exact ⟨0, Nat.zero_le _, rfl, by simp [Hid], Lib.hid (Below.refl _ _)⟩
  case round =>
    obtain ⟨k, hk, rfl, HS, HB⟩ := hrel
    by_cases hlt : k < n
    · obtain ⟨f, hf⟩ : ∃ f, l[k]? = some f := ⟨_, List.getElem?_eq_getElem (by rw [HN.out]; exact hlt)⟩
      obtain ⟨rfl, hb⟩ := HF.out.at0 (by rw [HN.out]; omega)
      have FL := HF.out.later HB.out (Nat.le_refl _)
      obtain ⟨c0, c1, c2, c3, c4, c5, c6, c7, c8⟩ := fc_cells (w := wr) (fun j u hu => FL.cell k f hf j u hu)
      have zb : b < wr.heap.size := Nat.lt_of_lt_of_le hb HB.out.size
      have CC := Lib.hid (HC.out wr HB.out k f (U k) hf (FL.ids k f hf))
      have HX := Lib.hid hf
      obtain ⟨ou, cu, hU⟩ := (HF.out.ids k f hf).val
      rw [hU] at c0 CC
      clear FL hf hU
      cases hs : P f
      · rw [hs] at CC
        have HY := Lib.hid (any_takeF HX.out HS.out hs)
        clear HS
        go_wp2_with (go_at_call 122; refine CC.out.mono ?_; rintro e w' ⟨rfl, hb'⟩)
        go_roundw
        case rel => exact ⟨k + 1, by omega, by go_num, HY, Lib.hid (HB.out.trans (hb'.mono HB.out.size))⟩
        case measure => simp [intOf]; omega
      · rw [hs] at CC
        have HY := Lib.hid (any_hitF HX.out hs)
        clear HS
        go_wp2_with (go_at_call 122; refine CC.out.mono ?_; rintro e w' ⟨rfl, hb'⟩)
        go_ret
        exact ⟨_, rfl, by rw [HY.out]; simp, HB.out.trans (hb'.mono HB.out.size)⟩
    · have h := HS.out
      rw [List.take_of_length_le (by rw [HN.out]; omega)] at h
      have HY := Lib.hid h
      clear h HS
      go_wp2_with fail
      go_ret
      exact ⟨_, rfl, by rw [HY.out]; simp, HB.out⟩
set_option maxHeartbeats 1000000 in
theorem containsAhead_calls (P : Fr → Bool) (l : List Fr) (v : Value) (bx : Nat) (w : World) (hR : FrW w l v) (C : ∀ w', Below w.heap.size w w' → ∀ (k : Nat) (f : Fr) (u : Value), l[k]? = some f → TxW w' f.ids u → Calls Tryz.prog 122 #[frV f u, .pointer (some ⟨bx, 0, none⟩)] w' fun e w'' => e = .returned (.bool (P f)) ∧ Below w'.heap.size w' w'') :
    Calls Tryz.prog 72 #[v, .func (Fn.func 122) #[] #[.pointer (some ⟨bx, 0, none⟩)]] w fun e w' => e = .returned (.bool (l.any P)) ∧ Below w.heap.size w w' := by
  have D := Lib.hid (indexAhead_calls P l v bx w hR C)
  obtain ⟨oa, cap, rfl⟩ := hR.val
  clear hR C
  go_enter Tryz.func72, Tryz.ntmps72
  go_wp2_with (go_at_call 124; refine D.out.mono ?_; rintro e w' ⟨n, rfl, hn, hb⟩)
  go_ret
  first | exact ⟨ret_bool hn, hb⟩ | exact ⟨rfl, hb⟩
end Go.Proofs.YtjkcooakddlppaaGreat
/- The code's Same, May and Join of what is known, walked. -/
namespace Go.Proofs.YtjkcooakddlppaaGreat
set_option linter.unusedVariables false
set_option linter.unusedSimpArgs false
set_option maxRecDepth 100000
open Go.RowKit
/-! ### Same -/
/-! ### May -/
theorem not_odd (l : List Fr) : (!(l.any oddB)) = l.all (mayFr nameB) := by
  rw [List.not_any_eq_all_not]
  congr 1
  funext f
  unfold oddB mayFr
  rw [Bool.not_or, Bool.not_not, List.not_any_eq_all_not]
  congr 1
  congr 1
  funext s
  rw [Bool.not_not]
set_option maxRecDepth 100000 in
set_option maxHeartbeats 4000000 in
theorem knowMay_calls (nm : ByteArray → Bool) (hnm : nm = nameB) (a : Kn) (v : Value) (w : World) (hR : FrW w a.l v) (hl1 : (flatI a.l).length ≤ 10000) :
    Calls Tryz.prog 69 #[knV a.star v] w fun e w' => e = .returned (.bool (mayK nm a)) ∧ Below w.heap.size w w' := by
  subst hnm
  obtain ⟨ov, cv, rfl⟩ := hR.val
  have OA := Lib.hid (Own.newAt w (knA a.star (.slice ov a.l.length cv)) 31 (b := w.heap.size) (by first | rfl | simp)).has
  have BEL := Lib.hid ((Below.refl w.heap.size w).alloc (by first | exact Nat.le_refl _ | (simp; omega) | simp) (.cells (knA a.star (.slice ov a.l.length cv)) 31))
  have LA := Lib.hid (hR.later BEL.out (Nat.le_refl _))
  have PA := fun w' h => Lib.hid (codePlain_calls a (.slice ov a.l.length cv) w' h hl1)
  have EQ := fun va vb w' h h' => Lib.hid (show Calls Tryz.prog 120 #[knV a.star va, knV a.star vb] w' (fun e w'' => e = .returned (.bool (alikeK a (plainB a))) ∧ Below w'.heap.size w' w'') from kEqual_calls a (plainB a) va vb w' h h')
  have MV := fun w' => Lib.hid (vecMay_calls a.star w')
  have CD := fun w' h => Lib.hid (containsD_calls oddB a.l (.slice ov a.l.length cv) w' h fun w' hb k f u hf hu => odd_calls f u w' hu)
  have e : mayK nameB a = ((mayV a.star && !(a.l.any oddB)) && alikeK a (plainB a)) := by
    unfold mayK
    rw [not_odd]
    cases mayV a.star <;> cases alikeK a (plainB a) <;> cases a.l.all (mayFr nameB) <;> rfl
  rw [e]
  clear e hR hl1
  generalize alikeK a (plainB a) = al at *
  generalize (plainB a).l = ra at *
  generalize a.l.length = len at *
  generalize a.l.any oddB = od at *
  cases hm : mayV a.star
  · rw [hm] at MV
    go_enter Tryz.func69, Tryz.ntmps69
    go_wp2_with fail
    replace OA := Lib.hid (OA.out.drew)
    replace BEL := Lib.hid (BEL.out.drew)
    have l1 := OA.out.cell
    have z1 := OA.out.lt
    first | (go_region_law (first
        | (go_simp; go_at_call 118; refine (MV _).out.mono ?_; rintro e wa ⟨rfl, hb⟩; have BELa := Lib.hid (BEL.out.trans (hb.mono BEL.out.size)); clear hb)
        | fail)) | fail
    all_goals
      go_wp2_with fail
      go_ret
      exact ⟨rfl, BELa.out⟩
  · rw [hm] at MV
    cases hod : od
    · subst hod
      go_enter Tryz.func69, Tryz.ntmps69
      go_wp2_with fail
      replace OA := Lib.hid (OA.out.drew)
      replace LA := Lib.hid (LA.out.later (Below.refl _ _).drew (Nat.le_refl _))
      replace BEL := Lib.hid (BEL.out.drew)
      first | (go_region_held3 (fun w' => ∀ o, w'.cell? ⟨w.heap.size, o, none⟩ = (knA a.star (.slice ov len cv))[o]?) (exact OA.out.cell) (first
          | (go_simp; go_at_call 118; refine (MV _).out.mono ?_; rintro e wa ⟨rfl, hb⟩; replace OA := Lib.hid (OA.out.below hb OA.out.lt); replace LA := Lib.hid (LA.out.later hb (Nat.le_refl _)); replace BEL := Lib.hid (BEL.out.trans (hb.mono BEL.out.size)); clear hb)
          | (go_simp; go_at_call 72; refine (CD _ LA.out).out.mono ?_; rintro e wb ⟨rfl, hb⟩; replace OA := Lib.hid (OA.out.below hb OA.out.lt); replace LA := Lib.hid (LA.out.later hb (Nat.le_refl _)); replace BEL := Lib.hid (BEL.out.trans (hb.mono BEL.out.size)); clear hb)
          | (go_simp; go_at_call 96; refine (PA _ LA.out).out.mono ?_; rintro e wc ⟨va, rfl, hfa, hb⟩; obtain ⟨oa, ca, rfl⟩ := hfa.fr.val; have FA := Lib.hid hfa.fr; replace OA := Lib.hid (OA.out.below hb OA.out.lt); replace LA := Lib.hid (LA.out.later hb (Nat.le_refl _)); replace BEL := Lib.hid (BEL.out.trans (hb.mono BEL.out.size)); clear hb hfa)
          | (go_simp; go_at_call 120; refine (EQ _ _ _ LA.out FA.out).out.mono ?_; rintro e wd ⟨rfl, hb⟩; replace OA := Lib.hid (OA.out.below hb OA.out.lt); replace BEL := Lib.hid (BEL.out.trans (hb.mono BEL.out.size)); clear hb)
          | fail)) | fail
      all_goals
        go_wp2_with fail
        go_ret
        exact ⟨rfl, BEL.out⟩
    · subst hod
      go_enter Tryz.func69, Tryz.ntmps69
      go_wp2_with fail
      replace OA := Lib.hid (OA.out.drew)
      replace LA := Lib.hid (LA.out.later (Below.refl _ _).drew (Nat.le_refl _))
      replace BEL := Lib.hid (BEL.out.drew)
      have l1 := OA.out.cell
      have z1 := OA.out.lt
      first | (go_region_law (first
          | (go_simp; go_at_call 118; refine (MV _).out.mono ?_; rintro e wa ⟨rfl, hb⟩; have OAa := Lib.hid (OA.out.below hb OA.out.lt); have LAa := Lib.hid (LA.out.later hb (Nat.le_refl _)); have BELa := Lib.hid (BEL.out.trans (hb.mono BEL.out.size)); have la := OAa.out.cell; have za := OAa.out.lt; clear hb)
          | (go_simp; go_at_call 72; refine (CD _ LAa.out).out.mono ?_; rintro e wb ⟨rfl, hb⟩; have BELb := Lib.hid (BELa.out.trans (hb.mono BELa.out.size)); clear hb)
          | fail)) | fail
      all_goals
        go_wp2_with fail
        go_ret
        exact ⟨rfl, BELb.out⟩
end Go.Proofs.YtjkcooakddlppaaGreat
