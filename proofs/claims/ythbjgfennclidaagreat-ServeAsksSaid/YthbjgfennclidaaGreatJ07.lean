/- Joined: VecL, RefKnow1, ItemE, PlSt, RegM. -/
import Derived.Test.YthbjgfennclidaaGreatJ06
import Derived.Laws.StructEq
import Derived.Laws.Tables
import Derived.Laws.Cover2
import Derived.Deep.CutBlock
import Derived.Deep.DeepCutAuto
import Derived.OneCell
import Derived.Below
import Derived.Deep.RegionHeld
/- '==' of two counts, as a law to be named. No walk. -/
namespace Go.Proofs.YthbjgfennclidaaGreat
set_option linter.unusedVariables false
set_option linter.unusedSimpArgs false
set_option maxRecDepth 100000
open Go.RowKit
set_option maxHeartbeats 2000000 in
theorem eqVecL (a0 a1 a2 a3 a4 a5 a6 a7 b0 b1 b2 b3 b4 b5 b6 b7 : Int) (w : World) : (Op.equalIn 10000 28 (.agg #[.int .i64 a0, .int .i64 a1, .int .i64 a2, .int .i64 a3, .int .i64 a4, .int .i64 a5, .int .i64 a6, .int .i64 a7]) (.agg #[.int .i64 b0, .int .i64 b1, .int .i64 b2, .int .i64 b3, .int .i64 b4, .int .i64 b5, .int .i64 b6, .int .i64 b7])).run Tryz.prog w = .ok (a0 == b0 && (a1 == b1 && (a2 == b2 && (a3 == b3 && (a4 == b4 && (a5 == b5 && (a6 == b6 && (a7 == b7)))))))) w := by
  have ju := Tryz.underlying3
  have ja := Tryz.isAgg3
  have jz := Tryz.sizeOf3
  rw [show (10000 : Nat) = 9999 + 1 from rfl, Op.equalIn]
  simp only [Sem.run_bind, run_underlying Tryz.underlying28, Result.andThen_ok]
  simp only [Std.Legacy.Range.forIn_eq_forIn_range', Std.Legacy.Range.size, Nat.sub_zero, Nat.add_sub_cancel, Nat.div_one, List.range'_succ, List.range'_zero, List.forIn_cons, List.forIn_nil]
  go_simp
  by_cases h0 : a0 = b0
  case neg => simp [h0]
  by_cases h1 : a1 = b1
  case neg => simp [h0, h1]
  by_cases h2 : a2 = b2
  case neg => simp [h0, h1, h2]
  by_cases h3 : a3 = b3
  case neg => simp [h0, h1, h2, h3]
  by_cases h4 : a4 = b4
  case neg => simp [h0, h1, h2, h3, h4]
  by_cases h5 : a5 = b5
  case neg => simp [h0, h1, h2, h3, h4, h5]
  by_cases h6 : a6 = b6
  case neg => simp [h0, h1, h2, h3, h4, h5, h6]
  by_cases h7 : a7 = b7
  case neg => simp [h0, h1, h2, h3, h4, h5, h6, h7]
  simp [h0, h1, h2, h3, h4, h5, h6, h7]
theorem eqVec7 (A B : Nat → Int) (w : World) : (Op.equalIn 10000 28 (vecV A) (vecV B)).run Tryz.prog w = .ok (eqV A B) w := by
  have e : eqV A B = (A 0 == B 0 && (A 1 == B 1 && (A 2 == B 2 && (A 3 == B 3 && (A 4 == B 4 && (A 5 == B 5 && (A 6 == B 6 && A 7 == B 7))))))) := by
    unfold eqV
    simp [List.range_succ, Bool.and_assoc]
  rw [e]
  exact eqVecL _ _ _ _ _ _ _ _ _ _ _ _ _ _ _ _ w
end Go.Proofs.YthbjgfennclidaaGreat
/- What is known: the document's Among, insert, walked. -/
namespace Go.Proofs.YthbjgfennclidaaGreat
set_option linter.unusedVariables false
set_option linter.unusedSimpArgs false
set_option maxRecDepth 100000
open Go.RowKit
set_option maxHeartbeats 1000000 in
theorem among_calls (l : List ByteArray) (s : ByteArray) (v : Value) (w : World) (hR : TxW w l v) :
    Calls Tryz.prog 64 #[v, .string s] w fun e w' => e = .returned (.bool (amongB l s)) ∧ w = w' := by
  obtain ⟨oa, cap, b, o, rfl, hr⟩ := hR
  have HR := Lib.hid hr
  have hcap := hr.len
  have hmax := hr.max
  unfold maxLen at hmax
  clear hr
  generalize hres : amongB l s = res at *
  have HRES := Lib.hid hres
  clear hres
  generalize hn : l.length = len at *
  have HN := Lib.hid hn
  clear hn
  go_enter Tryz.func64, Tryz.ntmps64
  go_wp2_with fail
  go_loopw [5] (fun i wr => ∃ k : Nat, k ≤ len ∧ i = .int .i64 k ∧ Hid (∀ j x, j < k → l[j]? = some x → (x.toList == s.toList) = false) ∧ wr = w) (fun i _ => len - (intOf i).toNat)
  case atStart => exact ⟨0, Nat.zero_le _, rfl, fun j x hj => absurd hj (by omega), rfl⟩
  case round =>
    obtain ⟨k, hk, rfl, HS, rfl⟩ := hrel
    by_cases hlt : k < len
    · obtain ⟨x, hx⟩ : ∃ x, l[k]? = some x := ⟨_, List.getElem?_eq_getElem (by rw [HN.out]; exact hlt)⟩
      obtain ⟨rfl, hb0⟩ := HR.out.at0 (by rw [HN.out]; omega)
      have c0 := HR.out.cell k x hx
      cases ht : (x.toList == s.toList)
      · have HS2 := Lib.hid (show ∀ j x, j < k + 1 → l[j]? = some x → (x.toList == s.toList) = false from fun j y hj hy => by
          by_cases e : j = k
          · subst e; rw [hx] at hy; cases hy; exact ht
          · exact HS.out j y (by omega) hy)
        clear hx
        go_wp2_with fail
        go_roundw
        case rel => exact ⟨k + 1, by omega, by go_num, HS2.out, by first | rfl | trivial⟩
        case measure => simp [intOf]; omega
      · have E := Lib.hid (show res = true by
          rw [← HRES.out]; unfold amongB; rw [List.any_eq_true]
          exact ⟨x, List.mem_of_getElem? hx, ht⟩)
        clear hx
        go_wp2_with fail
        go_ret
        exact ⟨ret_bool E.out.symm, rfl⟩
    · have E := Lib.hid (show res = false by
        rw [← HRES.out]; unfold amongB; rw [List.any_eq_false]
        intro x hx
        obtain ⟨j, hj, e⟩ := List.mem_iff_getElem.1 hx
        have := HS.out j x (by have := HN.out; omega) (by rw [List.getElem?_eq_getElem hj, e])
        simp [this])
      go_wp2_with fail
      go_ret
      exact ⟨ret_bool E.out.symm, rfl⟩
def InsRel (l : List ByteArray) (s : ByteArray) (len : Nat) (w : World) (lv pv iv : Value) (wr : World) : Prop :=
  ∃ (k : Nat) (sv : Value) (p : Bool), k ≤ len ∧ iv = .int .i64 k ∧ sv = lv ∧ pv = .bool p ∧ Hid (p = (insF s (l.take k)).2) ∧ Hid ((insF s (l.take k)).1.length ≤ k + 1) ∧ Hid (OwnT wr w.heap.size (insF s (l.take k)).1 sv) ∧ Hid (Below w.heap.size w wr)
theorem insF_take {s : ByteArray} {l : List ByteArray} {k : Nat} {a : ByteArray} (h : l[k]? = some a) : insF s (l.take (k + 1)) = insStep s (insF s (l.take k)) a := by
  unfold insF; rw [takeT h, List.foldl_append]; rfl
theorem insF_len (s : ByteArray) (l : List ByteArray) : (insF s l).1.length ≤ l.length + (if (insF s l).2 = true then 1 else 0) := by
  have : ∀ (l : List ByteArray) (o : List ByteArray × Bool), (l.foldl (insStep s) o).1.length + (if o.2 = true then 1 else 0) ≤ o.1.length + l.length + (if (l.foldl (insStep s) o).2 = true then 1 else 0) := by
    intro l
    induction l with
    | nil => intro o; obtain ⟨o1, o2⟩ := o; cases o2 <;> simp
    | cons a l ih =>
      intro o
      rw [List.foldl_cons]
      have h1 := ih (insStep s o a)
      have h2 : (insStep s o a).1.length + (if o.2 = true then 1 else 0) ≤ o.1.length + 1 + (if (insStep s o a).2 = true then 1 else 0) := by
        unfold insStep
        obtain ⟨o1, o2⟩ := o
        cases o2 <;> cases hl : leB s a <;> cases ha : (a.toList == s.toList) <;> simp <;> omega
      simp only [List.length_cons]
      omega
  have := this l ([], false)
  unfold insF
  simp only [List.length_nil] at this
  simp at this
  omega
set_option maxRecDepth 100000 in
set_option maxHeartbeats 4000000 in
theorem insert_calls (l : List ByteArray) (s : ByteArray) (v : Value) (w : World) (hR : TxW w l v) (hlen : l.length ≤ 10000) :
    Calls Tryz.prog 201 #[v, .string s] w fun e w' => ∃ v', e = .returned v' ∧ OwnT w' w.heap.size (insB l s) v' ∧ Below w.heap.size w w' := by
  obtain ⟨oa, cap, b, o, rfl, hr⟩ := hR
  obtain ⟨i0, hi, hz0, hz1, hz2⟩ := info_parts info_text
  have HR := Lib.hid hr
  have hcap := hr.len
  have hmax := hr.max
  unfold maxLen at hmax
  clear hr
  generalize hn : l.length = len at *
  have HN := Lib.hid hn
  clear hn
  go_enter Tryz.func201, Tryz.ntmps201
  go_wp2_with fail
  go_loopw [5, 6, 7] (fun lv pv iv wr => InsRel l s len w lv pv iv wr) (fun _ _ iv _ => len - (intOf iv).toNat)
  case atStart => exact ⟨0, _, false, Nat.zero_le _, rfl, rfl, rfl, by simp [Hid, insF], by simp [Hid, insF], by unfold Hid; exact OwnT.nil _ _, Below.refl _ _⟩
  case round =>
    obtain ⟨k, sv, p, hk, rfl, rfl, rfl, HP, HL, HO, HB⟩ := hrel
    by_cases hlt : k < len
    · obtain ⟨a, ha⟩ : ∃ a, l[k]? = some a := ⟨_, List.getElem?_eq_getElem (by rw [HN.out]; exact hlt)⟩
      obtain ⟨rfl, hb0⟩ := HR.out.at0 (by rw [HN.out]; omega)
      have c0 := (HB.out.cell (p := ⟨b, o + k, none⟩) hb0).trans (HR.out.cell k a ha)
      have zb := Nat.lt_of_lt_of_le hb0 HB.out.size
      have zw := HB.out.size
      have HF := Lib.hid (insF_take (s := s) ha)
      have HLN := Lib.hid (Nat.le_trans (insF_len s (l.take (k + 1))) (show _ ≤ k + 1 + 1 by rw [List.length_take]; split <;> omega))
      have hlk := HL.out
      have HA := Lib.hid ha
      clear ha
      generalize hO : (insF s (l.take k)).1 = out at *
      have HFE := Lib.hid (show insF s (l.take (k + 1)) = insStep s (out, p) a by rw [HF.out, ← hO, HP.out])
      have HK := Lib.hid HL.out
      clear hO HF HP HL
      cases hle : leB s a <;> cases hea : (a.toList == s.toList) <;> cases p
      · have HE := Lib.hid (show insF s (l.take (k + 1)) = (out ++ [a], false) by rw [HFE.out]; simp [insStep, hle, hea])
        clear HFE
        unfold leB at hle
        have HP4 := Lib.hid (HO.out.alloc (.cells #[.string a] 9))
        have HQ4 := Lib.hid (HB.out.alloc zw (.cells #[.string a] 9))
        have hown4 : (wr.alloc (.cells #[.string a] 9)).ownsRow (w.heap.size) 9 1 sv (out).length (txC (out)) := HP4.out
        go_wp2_with (first | (at_builtin; refine wpList_append_lies _ (by rfl) _ _ _ (by rfl) (w.heap.size) 9 i0 _ 1 16 Tryz.underlying123 hi hz0 hz1 hz2 rfl (by omega) sv (out).length (txC (out)) (by rfl) hown4 ⟨wr.heap.size, 0, none⟩ 1 1 [.string a] (by rfl) (by rfl) newsT (oneT a) (by omega) (by unfold maxLen; omega) (by omega) (by simp; omega) (wr.heap.size + 1) (by simp) ?_; intro g4 cap4 w4 hown3 hgrow hat hlt3; have HO4 := Lib.hid (OwnT.push hown3 rfl); have HB4 := Lib.hid (below_pushT HP4.out HQ4.out (by omega) hgrow HQ4.out.size); have zw4 := HB4.out.size; clear hown4 hown3 hgrow hat hlt3 HP4 HQ4; have c4 := (HB4.out.cell (p := ⟨b, o + k, none⟩) hb0).trans (HR.out.cell k a HA.out); have zb4 := Nat.lt_of_lt_of_le hb0 HB4.out.size))
        go_roundw
        case rel => exact ⟨k + 1, _, false, by omega, by go_num, rfl, rfl, Lib.hid (by rw [HE.out]), HLN, Lib.hid (by rw [HE.out]; first | exact HO4.out | (have h := HO4.out; simp only [List.length_append, List.length_cons, List.length_nil] at h; exact h)), HB4⟩
        case measure => simp [intOf]; omega
      · have HE := Lib.hid (show insF s (l.take (k + 1)) = (out ++ [a], true) by rw [HFE.out]; simp [insStep, hle, hea])
        clear HFE
        unfold leB at hle
        have HP4 := Lib.hid (HO.out.alloc (.cells #[.string a] 9))
        have HQ4 := Lib.hid (HB.out.alloc zw (.cells #[.string a] 9))
        have hown4 : (wr.alloc (.cells #[.string a] 9)).ownsRow (w.heap.size) 9 1 sv (out).length (txC (out)) := HP4.out
        go_wp2_with (first | (at_builtin; refine wpList_append_lies _ (by rfl) _ _ _ (by rfl) (w.heap.size) 9 i0 _ 1 16 Tryz.underlying123 hi hz0 hz1 hz2 rfl (by omega) sv (out).length (txC (out)) (by rfl) hown4 ⟨wr.heap.size, 0, none⟩ 1 1 [.string a] (by rfl) (by rfl) newsT (oneT a) (by omega) (by unfold maxLen; omega) (by omega) (by simp; omega) (wr.heap.size + 1) (by simp) ?_; intro g4 cap4 w4 hown3 hgrow hat hlt3; have HO4 := Lib.hid (OwnT.push hown3 rfl); have HB4 := Lib.hid (below_pushT HP4.out HQ4.out (by omega) hgrow HQ4.out.size); have zw4 := HB4.out.size; clear hown4 hown3 hgrow hat hlt3 HP4 HQ4; have c4 := (HB4.out.cell (p := ⟨b, o + k, none⟩) hb0).trans (HR.out.cell k a HA.out); have zb4 := Nat.lt_of_lt_of_le hb0 HB4.out.size))
        go_roundw
        case rel => exact ⟨k + 1, _, true, by omega, by go_num, rfl, rfl, Lib.hid (by rw [HE.out]), HLN, Lib.hid (by rw [HE.out]; first | exact HO4.out | (have h := HO4.out; simp only [List.length_append, List.length_cons, List.length_nil] at h; exact h)), HB4⟩
        case measure => simp [intOf]; omega
      · have HE := Lib.hid (show insF s (l.take (k + 1)) = (out, false) by rw [HFE.out]; simp [insStep, hle, hea])
        clear HFE
        unfold leB at hle
        go_wp2_with fail
        go_roundw
        case rel => exact ⟨k + 1, _, false, by omega, by go_num, rfl, rfl, Lib.hid (by rw [HE.out]), HLN, Lib.hid (by rw [HE.out]; first | exact HO.out | (have h := HO.out; simp only [List.length_append, List.length_cons, List.length_nil] at h; exact h)), HB⟩
        case measure => simp [intOf]; omega
      · have HE := Lib.hid (show insF s (l.take (k + 1)) = (out, true) by rw [HFE.out]; simp [insStep, hle, hea])
        clear HFE
        unfold leB at hle
        go_wp2_with fail
        go_roundw
        case rel => exact ⟨k + 1, _, true, by omega, by go_num, rfl, rfl, Lib.hid (by rw [HE.out]), HLN, Lib.hid (by rw [HE.out]; first | exact HO.out | (have h := HO.out; simp only [List.length_append, List.length_cons, List.length_nil] at h; exact h)), HB⟩
        case measure => simp [intOf]; omega
      · have HE := Lib.hid (show insF s (l.take (k + 1)) = (out ++ [s] ++ [a], true) by rw [HFE.out]; simp [insStep, hle, hea])
        clear HFE
        unfold leB at hle
        have hlk1 : (out ++ [s]).length = (out).length + 1 := by simp
        have HP4 := Lib.hid (HO.out.alloc (.cells #[.string s] 9))
        have HQ4 := Lib.hid (HB.out.alloc zw (.cells #[.string s] 9))
        have hown4 : (wr.alloc (.cells #[.string s] 9)).ownsRow (w.heap.size) 9 1 sv (out).length (txC (out)) := HP4.out
        go_wp2_with (first | (at_builtin; refine wpList_append_lies _ (by rfl) _ _ _ (by rfl) (w.heap.size) 9 i0 _ 1 16 Tryz.underlying123 hi hz0 hz1 hz2 rfl (by omega) sv (out).length (txC (out)) (by rfl) hown4 ⟨wr.heap.size, 0, none⟩ 1 1 [.string s] (by rfl) (by rfl) newsT (oneT s) (by omega) (by unfold maxLen; omega) (by omega) (by simp; omega) (wr.heap.size + 1) (by simp) ?_; intro g4 cap4 w4 hown3 hgrow hat hlt3; have HO4 := Lib.hid (OwnT.push hown3 rfl); have HB4 := Lib.hid (below_pushT HP4.out HQ4.out (by omega) hgrow HQ4.out.size); have zw4 := HB4.out.size; clear hown4 hown3 hgrow hat hlt3 HP4 HQ4; have c4 := (HB4.out.cell (p := ⟨b, o + k, none⟩) hb0).trans (HR.out.cell k a HA.out); have zb4 := Nat.lt_of_lt_of_le hb0 HB4.out.size; have HP5 := Lib.hid (HO4.out.alloc (.cells #[.string a] 9)); have HQ5 := Lib.hid (HB4.out.alloc zw4 (.cells #[.string a] 9)); have hown5 : (w4.alloc (.cells #[.string a] 9)).ownsRow (w.heap.size) 9 1 (.slice (some ⟨g4, 0, none⟩) ((out).length + 1) cap4) (out ++ [s]).length (txC (out ++ [s])) := HP5.out) | (at_builtin; refine wpList_append_lies _ (by rfl) _ _ _ (by rfl) (w.heap.size) 9 i0 _ 1 16 Tryz.underlying123 hi hz0 hz1 hz2 rfl (by omega) (.slice (some ⟨g4, 0, none⟩) ((out).length + 1) cap4) (out ++ [s]).length (txC (out ++ [s])) (by rfl) hown5 ⟨w4.heap.size, 0, none⟩ 1 1 [.string a] (by rfl) (by rfl) newsT (oneT a) (by omega) (by unfold maxLen; omega) (by omega) (by simp; omega) (w4.heap.size + 1) (by simp) ?_; intro g5 cap5 w5 hown3 hgrow hat hlt3; have HO5 := Lib.hid (OwnT.push hown3 rfl); have HB5 := Lib.hid (below_pushT HP5.out HQ5.out (by omega) hgrow HQ5.out.size); have zw5 := HB5.out.size; clear hown5 hown3 hgrow hat hlt3 HP5 HQ5; have c5 := (HB5.out.cell (p := ⟨b, o + k, none⟩) hb0).trans (HR.out.cell k a HA.out); have zb5 := Nat.lt_of_lt_of_le hb0 HB5.out.size))
        go_roundw
        case rel => exact ⟨k + 1, _, true, by omega, by go_num, rfl, rfl, Lib.hid (by rw [HE.out]), HLN, Lib.hid (by rw [HE.out]; first | exact HO5.out | (have h := HO5.out; simp only [List.length_append, List.length_cons, List.length_nil] at h; exact h)), HB5⟩
        case measure => simp [intOf]; omega
      · have HE := Lib.hid (show insF s (l.take (k + 1)) = (out ++ [a], true) by rw [HFE.out]; simp [insStep, hle, hea])
        clear HFE
        unfold leB at hle
        have HP4 := Lib.hid (HO.out.alloc (.cells #[.string a] 9))
        have HQ4 := Lib.hid (HB.out.alloc zw (.cells #[.string a] 9))
        have hown4 : (wr.alloc (.cells #[.string a] 9)).ownsRow (w.heap.size) 9 1 sv (out).length (txC (out)) := HP4.out
        go_wp2_with (first | (at_builtin; refine wpList_append_lies _ (by rfl) _ _ _ (by rfl) (w.heap.size) 9 i0 _ 1 16 Tryz.underlying123 hi hz0 hz1 hz2 rfl (by omega) sv (out).length (txC (out)) (by rfl) hown4 ⟨wr.heap.size, 0, none⟩ 1 1 [.string a] (by rfl) (by rfl) newsT (oneT a) (by omega) (by unfold maxLen; omega) (by omega) (by simp; omega) (wr.heap.size + 1) (by simp) ?_; intro g4 cap4 w4 hown3 hgrow hat hlt3; have HO4 := Lib.hid (OwnT.push hown3 rfl); have HB4 := Lib.hid (below_pushT HP4.out HQ4.out (by omega) hgrow HQ4.out.size); have zw4 := HB4.out.size; clear hown4 hown3 hgrow hat hlt3 HP4 HQ4; have c4 := (HB4.out.cell (p := ⟨b, o + k, none⟩) hb0).trans (HR.out.cell k a HA.out); have zb4 := Nat.lt_of_lt_of_le hb0 HB4.out.size))
        go_roundw
        case rel => exact ⟨k + 1, _, true, by omega, by go_num, rfl, rfl, Lib.hid (by rw [HE.out]), HLN, Lib.hid (by rw [HE.out]; first | exact HO4.out | (have h := HO4.out; simp only [List.length_append, List.length_cons, List.length_nil] at h; exact h)), HB4⟩
        case measure => simp [intOf]; omega
      · have HE := Lib.hid (show insF s (l.take (k + 1)) = (out ++ [s], true) by rw [HFE.out]; simp [insStep, hle, hea])
        clear HFE
        unfold leB at hle
        have HP4 := Lib.hid (HO.out.alloc (.cells #[.string s] 9))
        have HQ4 := Lib.hid (HB.out.alloc zw (.cells #[.string s] 9))
        have hown4 : (wr.alloc (.cells #[.string s] 9)).ownsRow (w.heap.size) 9 1 sv (out).length (txC (out)) := HP4.out
        go_wp2_with (first | (at_builtin; refine wpList_append_lies _ (by rfl) _ _ _ (by rfl) (w.heap.size) 9 i0 _ 1 16 Tryz.underlying123 hi hz0 hz1 hz2 rfl (by omega) sv (out).length (txC (out)) (by rfl) hown4 ⟨wr.heap.size, 0, none⟩ 1 1 [.string s] (by rfl) (by rfl) newsT (oneT s) (by omega) (by unfold maxLen; omega) (by omega) (by simp; omega) (wr.heap.size + 1) (by simp) ?_; intro g4 cap4 w4 hown3 hgrow hat hlt3; have HO4 := Lib.hid (OwnT.push hown3 rfl); have HB4 := Lib.hid (below_pushT HP4.out HQ4.out (by omega) hgrow HQ4.out.size); have zw4 := HB4.out.size; clear hown4 hown3 hgrow hat hlt3 HP4 HQ4; have c4 := (HB4.out.cell (p := ⟨b, o + k, none⟩) hb0).trans (HR.out.cell k a HA.out); have zb4 := Nat.lt_of_lt_of_le hb0 HB4.out.size))
        go_roundw
        case rel => exact ⟨k + 1, _, true, by omega, by go_num, rfl, rfl, Lib.hid (by rw [HE.out]), HLN, Lib.hid (by rw [HE.out]; first | exact HO4.out | (have h := HO4.out; simp only [List.length_append, List.length_cons, List.length_nil] at h; exact h)), HB4⟩
        case measure => simp [intOf]; omega
      · have HE := Lib.hid (show insF s (l.take (k + 1)) = (out, true) by rw [HFE.out]; simp [insStep, hle, hea])
        clear HFE
        unfold leB at hle
        go_wp2_with fail
        go_roundw
        case rel => exact ⟨k + 1, _, true, by omega, by go_num, rfl, rfl, Lib.hid (by rw [HE.out]), HLN, Lib.hid (by rw [HE.out]; first | exact HO.out | (have h := HO.out; simp only [List.length_append, List.length_cons, List.length_nil] at h; exact h)), HB⟩
        case measure => simp [intOf]; omega
    · have e : len = k := by omega
      subst e
      have h1 := HO.out
      have h2 := HP.out
      have h3 := HL.out
      rw [List.take_of_length_le (by rw [HN.out]; omega)] at h1 h2 h3
      have zw := HB.out.size
      have HI := Lib.hid (show insB l s = if p = true then (insF s l).1 else (insF s l).1 ++ [s] by rw [h2]; rfl)
      clear h2 HO HP HL
      generalize (insF s l).1 = out at *
      have HO := Lib.hid h1
      clear h1
      cases p
      · have HP4 := Lib.hid (HO.out.alloc (.cells #[.string s] 9))
        have HQ4 := Lib.hid (HB.out.alloc zw (.cells #[.string s] 9))
        have hown4 : (wr.alloc (.cells #[.string s] 9)).ownsRow (w.heap.size) 9 1 sv (out).length (txC (out)) := HP4.out
        go_wp2_with (first | (at_builtin; refine wpList_append_lies _ (by rfl) _ _ _ (by rfl) (w.heap.size) 9 i0 _ 1 16 Tryz.underlying123 hi hz0 hz1 hz2 rfl (by omega) sv (out).length (txC (out)) (by rfl) hown4 ⟨wr.heap.size, 0, none⟩ 1 1 [.string s] (by rfl) (by rfl) newsT (oneT s) (by omega) (by unfold maxLen; omega) (by omega) (by simp; omega) (wr.heap.size + 1) (by simp) ?_; intro g4 cap4 w4 hown3 hgrow hat hlt3; have HO4 := Lib.hid (OwnT.push hown3 rfl); have HB4 := Lib.hid (below_pushT HP4.out HQ4.out (by omega) hgrow HQ4.out.size); have zw4 := HB4.out.size; clear hown4 hown3 hgrow hat hlt3 HP4 HQ4))
        go_ret
        exact ⟨_, rfl, by rw [HI.out]; exact HO4.out, HB4.out⟩
      · go_wp2_with fail
        go_ret
        exact ⟨_, rfl, by rw [HI.out]; exact HO.out, HB.out⟩
end Go.Proofs.YthbjgfennclidaaGreat
/- Walks of layer 2: whether two items are the same. -/
namespace Go.Proofs.YthbjgfennclidaaGreat
set_option linter.unusedVariables false
set_option linter.unusedSimpArgs false
set_option maxRecDepth 100000
open Go.RowKit
def sameB (id : ByteArray) (r c st : Int) (kd : ByteArray) (n : Int) (x y : Nat) (d : Bool) (id' : ByteArray) (r' c' st' : Int) (kd' : ByteArray) (n' : Int) (x' y' : Nat) (d' : Bool) : Bool :=
  decide (id.toList = id'.toList) && (decide (r = r') && (decide (c = c') && (decide (st = st') && (decide (kd.toList = kd'.toList) && (decide (n = n') && (decide (d = d') && (feq x x' && feq y y')))))))
set_option maxHeartbeats 1000000 in
theorem refSame_calls (id : ByteArray) (r c st : Int) (kd : ByteArray) (n : Int) (x y : Nat) (d : Bool) (id' : ByteArray) (r' c' st' : Int) (kd' : ByteArray) (n' : Int) (x' y' : Nat) (d' : Bool) (w : World) :
    Calls Tryz.prog 138 #[itemV id r c st kd n x y d, itemV id' r' c' st' kd' n' x' y' d'] w fun e w' => e = .returned (.bool (sameB id r c st kd n x y d id' r' c' st' kd' n' x' y' d')) ∧ Below w.heap.size w w' := by
  have f1 : ∀ x y, (FloatKind.f64.format.order x y == some .eq) = feq x y := fun _ _ => rfl
  go_enter Tryz.func138, Tryz.ntmps138
  go_wp2
  all_goals
    go_ret
    exact ⟨ret_bool (by simp_all [sameB]), ((Below.refl _ _).alloc (Nat.le_refl _) _).alloc (by simp) _⟩
theorem cmpV_val (a b c a' b' c' : Int) : cmpV a b c a' b' c' = 1 ∨ cmpV a b c a' b' c' = 0 ∨ cmpV a b c a' b' c' = -1 := by
  unfold cmpV orI cmpI
  split <;> split <;> (try split) <;> (try split) <;> (try split) <;> omega
end Go.Proofs.YthbjgfennclidaaGreat
/- Pieces that a call owns: a row of pieces, and the rows of their Ids. No walk. -/
namespace Go.Proofs.YthbjgfennclidaaGreat
set_option linter.unusedVariables false
set_option linter.unusedSimpArgs false
set_option maxRecDepth 100000
open Go.RowKit
def frCs (U : Nat → Value) : Nat → List Fr → List Value
  | _, [] => []
  | s, f :: l => fc f (U s) ++ frCs U (s + 1) l
theorem frCs_len (U : Nat → Value) (s : Nat) (l : List Fr) : (frCs U s l).length = l.length * 9 := by
  induction l generalizing s with
  | nil => rfl
  | cons p l ih => simp only [frCs, List.length_append, ih, List.length_cons, List.length_nil]; omega
theorem frCs_get (U : Nat → Value) (s : Nat) (l : List Fr) (i : Nat) (f : Fr) (hf : l[i]? = some f) (j : Nat) (hj : j < 9) : (frCs U s l)[i * 9 + j]? = (fc f (U (s + i)))[j]? := by
  induction l generalizing s i with
  | nil => simp at hf
  | cons q l ih =>
    cases i with
    | zero =>
      simp at hf; subst hf
      simp only [frCs, Nat.zero_mul, Nat.zero_add, Nat.add_zero]
      rw [List.getElem?_append_left (by simpa using hj)]
    | succ i =>
      simp at hf
      have e : (fc q (U s)).length = 9 := rfl
      rw [frCs, List.getElem?_append_right (by rw [e]; omega), e, show (i + 1) * 9 + j - 9 = i * 9 + j by omega, ih (s + 1) i hf, show s + 1 + i = s + (i + 1) by omega]
theorem frCs_congr {U V : Nat → Value} {s : Nat} {l : List Fr} (h : ∀ i, i < l.length → U (s + i) = V (s + i)) : frCs U s l = frCs V s l := by
  induction l generalizing s with
  | nil => rfl
  | cons p l ih =>
    rw [frCs, frCs, show U s = V s from h 0 (by simp), ih (fun i hi => by have := h (i + 1) (by simp; omega); rwa [show s + (i + 1) = s + 1 + i by omega] at this)]
theorem frCs_app (U : Nat → Value) (s : Nat) (l m : List Fr) : frCs U s (l ++ m) = frCs U s l ++ frCs U (s + l.length) m := by
  induction l generalizing s with
  | nil => simp [frCs]
  | cons p l ih => simp only [List.cons_append, frCs, ih, List.append_assoc, List.length_cons]; rw [show s + 1 + l.length = s + (l.length + 1) by omega]
def updU (U : Nat → Value) (i : Nat) (v : Value) : Nat → Value := fun j => if j = i then v else U j
theorem updU_same (U : Nat → Value) (i : Nat) (v : Value) : updU U i v i = v := by simp [updU]
theorem updU_far (U : Nat → Value) {i j : Nat} (v : Value) (h : j ≠ i) : updU U i v j = U j := by simp [updU, h]
theorem frCs_set (U : Nat → Value) (l : List Fr) : ∀ (s a : Nat) (f f' : Fr) (v : Value), l[a]? = some f → f'.v = f.v → frCs (updU U (s + a) v) s (l.set a f') = (frCs U s l).set (a * 9) v := by
  induction l with
  | nil => intro s a f f' v h; simp at h
  | cons q l ih =>
    intro s a f f' v h hv
    cases a with
    | zero =>
      simp at h; subst h
      rw [List.set_cons_zero, frCs, frCs, Nat.zero_mul, Nat.add_zero, updU_same]
      rw [frCs_congr (U := updU U s v) (V := U) (s := s + 1) (l := l) (fun i _ => updU_far _ _ (by omega))]
      simp [fc, hv]
    | succ a =>
      simp at h
      rw [List.set_cons_succ, frCs, frCs, updU_far _ _ (by omega)]
      have e : (fc q (U s)).length = 9 := rfl
      rw [List.set_append_right _ _ (by rw [e]; omega), e, show (a + 1) * 9 - 9 = a * 9 by omega, ← ih (s + 1) a f f' v h hv, show s + 1 + a = s + (a + 1) by omega]
/-! ### Rows apart by what they hold -/
theorem row_apart {w : World} {base base' n n' size size' : Nat} {e e' : TypeId} {v v' : Value} {xs xs' : List Value} (h : w.ownsRow base e size v n xs) (h' : w.ownsRow base' e' size' v' n' xs') (hne : e ≠ e') : v.ownBlock = none ∨ v.ownBlock ≠ v'.ownBlock := by
  rcases h.2 with ⟨rfl, _⟩ | ⟨g, cap, cur, rfl, _, hg, _⟩
  · exact .inl rfl
  · right
    rcases h'.2 with ⟨rfl, _⟩ | ⟨g', cap', cur', rfl, _, hg', _⟩
    · simp [Value.ownBlock]
    · simp only [Value.ownBlock, ne_eq, Option.some.injEq]
      intro e; subst e
      rw [hg] at hg'
      simp only [Option.some.injEq, Obj.cells.injEq] at hg'
      exact hne hg'.2.1
theorem own_apart {w : World} {base n size b : Nat} {e t : TypeId} {v : Value} {xs : List Value} {c : Array Value} (h : w.ownsRow base e size v n xs) (h' : Own w b c t) (hne : e ≠ t) : some b ≠ v.ownBlock := by
  rcases h.2 with ⟨rfl, _⟩ | ⟨g, cap, cur, rfl, _, hg, _⟩
  · simp [Value.ownBlock]
  · simp only [Value.ownBlock, ne_eq, Option.some.injEq]
    intro e; subst e
    have := h'.blk
    rw [hg] at this
    simp only [Option.some.injEq, Obj.cells.injEq] at this
    exact hne this.2.1
theorem row_set {w : World} {base n size g cap o : Nat} {e : TypeId} {xs : List Value} (h : w.ownsRow base e size (.slice (some ⟨g, 0, none⟩) n cap) n xs) (v : Value) (ho : o < n * size) : (w.setCell ⟨g, o, none⟩ v).ownsRow base e size (.slice (some ⟨g, 0, none⟩) n cap) n (xs.set o v) := by
  obtain ⟨h1, h2⟩ := h
  refine ⟨by rw [List.length_set]; exact h1, ?_⟩
  rcases h2 with ⟨h2, _⟩ | ⟨g', cap', cur, hv, hg, hh, h3, h4, h5, h6⟩
  · cases h2
  · cases hv
    refine .inr ⟨g, cap, cur.setIfInBounds o v, rfl, hg, ?_, h3, h4, by simpa using h5, ?_⟩
    · simp only [World.setCell, Array.getElem?_modify, if_true]
      rw [hh]; simp
    · rw [← h6, Array.toList_setIfInBounds, List.take_set]
theorem row_free {w : World} {base n n' size g cap : Nat} {e : TypeId} {xs : List Value} (h : w.ownsRow base e size (.slice (some ⟨g, 0, none⟩) n' cap) n xs) (o : Nat) : w.frozen? ⟨g, o, none⟩ = false := by
  rcases h.2 with ⟨h2, _⟩ | ⟨g', cap', cur, hv, hg, hh, _⟩
  · cases h2
  · cases hv
    simp [World.frozen?, hh]
structure PK (w : World) (base : Nat) (o : List Fr) (U : Nat → Value) (Lv : Value) : Prop where
  row : w.ownsRow base 125 9 Lv o.length (frCs U 0 o)
  ids : ∀ i f, o[i]? = some f → OwnT w base f.ids (U i)
  apart : ∀ i j, i < o.length → j < o.length → i ≠ j → (U i).ownBlock = none ∨ (U i).ownBlock ≠ (U j).ownBlock
theorem PK.nil (w : World) (base : Nat) (U : Nat → Value) : PK w base [] U (.slice none 0 0) :=
  ⟨World.ownsRow_nil _ _ _ _, fun i f h => by simp at h, fun i j h => absurd h (by simp)⟩
theorem PK.later {w w' : World} {base : Nat} {o : List Fr} {U : Nat → Value} {Lv : Value} (h : PK w base o U Lv) (hb : Below w.heap.size w w') : PK w' base o U Lv :=
  ⟨ownsRow_below h.row hb, fun i f hf => (h.ids i f hf).later hb, h.apart⟩
theorem PK.setLow {w : World} {base : Nat} {o : List Fr} {U : Nat → Value} {Lv : Value} (h : PK w base o U Lv) {a : Addr} (ha : a.block < base) (u : Value) : PK (w.setCell a u) base o U Lv :=
  ⟨ownsRow_setCell_below h.row ha u, fun i f hf => ownsRow_setCell_below (h.ids i f hf) ha u, h.apart⟩
theorem ft_ne : 9 ≠ 125 := by decide
theorem PK.at {w : World} {base : Nat} {o : List Fr} {U : Nat → Value} {g n cap : Nat} (h : PK w base o U (.slice (some ⟨g, 0, none⟩) n cap)) {k : Nat} {f : Fr} (hf : o[k]? = some f) : ∀ j u, (fc f (U k))[j]? = some u → w.cell? ⟨g, k * 9 + j, none⟩ = some u := by
  intro j u hu
  have hj : j < 9 := (List.getElem?_eq_some_iff.1 hu).1
  have hk := posA hf
  have hn : n = o.length := by
    obtain ⟨oa, cap', g', e, _⟩ := row_slice h.row
    cases e; rfl
  subst hn
  rw [h.row.cellAt (k * 9 + j) (by omega), frCs_get _ _ _ _ _ hf _ hj, Nat.zero_add]
  exact hu
theorem PK.fr {w : World} {base : Nat} {o : List Fr} {U : Nat → Value} {Lv : Value} (h : PK w base o U Lv) (hok : ∀ f ∈ o, ∀ s ∈ f.ids, s.size ≤ maxLen) : FrW w o Lv := by
  obtain ⟨oa, cap, g, e, h1, h2, hg⟩ := row_slice h.row
  subst e
  refine ⟨U, oa, cap, g, 0, rfl, h1, h2, fun h0 => ⟨(hg h0).1, (hg h0).2.2⟩, fun k f hf j u hu => ?_, fun k f hf => (h.ids k f hf).tx (hok f (List.mem_of_getElem? hf))⟩
  obtain ⟨rfl, _⟩ := hg (by have := posA hf; omega)
  rw [Nat.zero_add]
  exact h.at hf j u hu
def FrFresh (w : World) (B : Nat) (l : List Fr) (v : Value) : Prop := ∀ w' : World, (∀ b, B ≤ b → b < w.heap.size → w'.heap[b]? = w.heap[b]?) → w.heap.size ≤ w'.heap.size → FrW w' l v
theorem FrFresh.fr {w : World} {B : Nat} {l : List Fr} {v : Value} (h : FrFresh w B l v) : FrW w l v := h w (fun _ _ _ => rfl) (Nat.le_refl _)
theorem FrFresh.mono {w : World} {B B' : Nat} {l : List Fr} {v : Value} (h : FrFresh w B l v) (hB : B' ≤ B) : FrFresh w B' l v := fun w' h1 h2 => h w' (fun b h3 h4 => h1 b (by omega) h4) h2
theorem FrFresh.setLow {w : World} {B : Nat} {l : List Fr} {v : Value} (h : FrFresh w B l v) {a : Addr} (ha : a.block < B) (u : Value) : FrFresh (w.setCell a u) B l v := fun w' h1 h2 =>
  have hs : (w.setCell a u).heap.size = w.heap.size := by simp [World.setCell]
  h w' (fun b h3 h4 => (h1 b h3 (by omega)).trans (Below.heap_setCell _ _ _ _ (by omega))) (by omega)
theorem PK.kept {w w' : World} {base : Nat} {o : List Fr} {U : Nat → Value} {Lv : Value} (h : PK w base o U Lv) (hb : ∀ b, base ≤ b → b < w.heap.size → w'.heap[b]? = w.heap[b]?) : PK w' base o U Lv := by
  have hk : ∀ {e : TypeId} {size n : Nat} {v : Value} {xs : List Value}, w.ownsRow base e size v n xs → w'.ownsRow base e size v n xs := by
    intro e size n v xs hr
    obtain ⟨h1, h2⟩ := hr
    refine ⟨h1, ?_⟩
    rcases h2 with h2 | ⟨g, cap, cur, hv, hg, hh, r⟩
    · exact .inl h2
    · have hlt : g < w.heap.size := (World.ownsRow.lt (⟨h1, .inr ⟨g, cap, cur, hv, hg, hh, r⟩⟩ : w.ownsRow base e size v n xs) g (by rw [hv]; rfl)).2
      exact .inr ⟨g, cap, cur, hv, hg, by rw [hb g hg hlt]; exact hh, r⟩
  exact ⟨hk h.row, fun i f hf => hk (h.ids i f hf), h.apart⟩
theorem PK.fresh {w : World} {base B : Nat} {o : List Fr} {U : Nat → Value} {Lv : Value} (h : PK w base o U Lv) (hB : B ≤ base) (hok : ∀ f ∈ o, ∀ s ∈ f.ids, s.size ≤ maxLen) : FrFresh w B o Lv :=
  fun w' h1 _ => (h.kept fun b h3 h4 => h1 b (by omega) h4).fr hok
theorem PK.pushF {w w' : World} {base : Nat} {o : List Fr} {U : Nat → Value} {Lv : Value} (h : PK w base o U Lv) (v : Nat → Int) {g n cap : Nat} (hn : n = o.length + 1)
    (hown : w'.ownsRow base 125 9 (.slice (some ⟨g, 0, none⟩) n cap) n (frCs U 0 o ++ fc ⟨[], v⟩ (.slice none 0 0))) (hgrow : w.grownBy w' Lv.ownBlock) :
    PK w' base (o ++ [⟨[], v⟩]) (updU U o.length (.slice none 0 0)) (.slice (some ⟨g, 0, none⟩) n cap) := by
  subst hn
  refine ⟨?_, fun i f hf => ?_, fun i j hi hj hij => ?_⟩
  · rw [List.length_append, frCs_app, Nat.zero_add, frCs, frCs, List.append_nil, updU_same]
    rw [frCs_congr (U := updU U o.length (.slice none 0 0)) (V := U) (s := 0) (l := o) (fun i hi => updU_far _ _ (by omega))]
    exact hown
  · by_cases e : i = o.length
    · subst e
      rw [List.getElem?_append_right (Nat.le_refl _), Nat.sub_self] at hf
      simp at hf; subst hf
      rw [updU_same]; exact OwnT.nil _ _
    · have hi : i < o.length := by have := posA hf; simp at this; omega
      rw [List.getElem?_append_left hi] at hf
      rw [updU_far _ _ e]
      exact World.ownsRow.kept (h.ids i f hf) hgrow (row_apart (h.ids i f hf) h.row ft_ne)
  · simp only [List.length_append, List.length_cons, List.length_nil] at hi hj
    by_cases e : i = o.length
    · subst e; rw [updU_same]; exact .inl rfl
    · rw [updU_far _ _ e]
      by_cases e' : j = o.length
      · subst e'; rw [updU_same]
        cases hq : (U i).ownBlock with
        | none => exact .inl rfl
        | some b => exact .inr (by simp [Value.ownBlock])
      · rw [updU_far _ _ e']; exact h.apart i j (by omega) (by omega) hij
theorem PK.pushT {w w' : World} {base : Nat} {o : List Fr} {U : Nat → Value} {gl nl cl : Nat} (h : PK w base o U (.slice (some ⟨gl, 0, none⟩) nl cl)) {a : Nat} {f : Fr} (hf : o[a]? = some f) (s : ByteArray) {g n cap : Nat} (hn : n = f.ids.length + 1)
    (hown : w'.ownsRow base 9 1 (.slice (some ⟨g, 0, none⟩) n cap) n (txC f.ids ++ [.string s])) (hgrow : w.grownBy w' (U a).ownBlock) (hat : (U a).ownBlock = some g ∨ g = w.heap.size) :
    PK (w'.setCell ⟨gl, a * 9, none⟩ (.slice (some ⟨g, 0, none⟩) n cap)) base (o.set a ⟨f.ids ++ [s], f.v⟩) (updU U a (.slice (some ⟨g, 0, none⟩) n cap)) (.slice (some ⟨gl, 0, none⟩) nl cl) := by
  have ha := posA hf
  have hrow' : w'.ownsRow base 125 9 (.slice (some ⟨gl, 0, none⟩) nl cl) o.length (frCs U 0 o) := World.ownsRow.kept h.row hgrow (row_apart h.row (h.ids a f hf) (fun e => ft_ne e.symm))
  have hnl : nl = o.length := by
    obtain ⟨oa, cap', g', e, _⟩ := row_slice h.row
    cases e; rfl
  subst hnl
  have hgl : ∀ {v : Value} {n : Nat} {xs : List Value}, w'.ownsRow base 9 1 v n xs → v.ownBlock ≠ some gl := by
    intro v n xs hv e
    rcases row_apart hv hrow' ft_ne with h1 | h1
    · rw [h1] at e; cases e
    · exact h1 (by rw [e]; rfl)
  have hne : ∀ j, j < o.length → j ≠ a → (U j).ownBlock ≠ some g := by
    intro j hj hja e
    rcases hat with h1 | h1
    · rcases h.apart j a hj ha hja with h2 | h2
      · rw [h2] at e; cases e
      · exact h2 (by rw [e, h1])
    · obtain ⟨fj, hfj⟩ : ∃ fj, o[j]? = some fj := ⟨_, List.getElem?_eq_getElem hj⟩
      have := (World.ownsRow.lt (h.ids j fj hfj) g e).2
      omega
  refine ⟨?_, fun i f' hf' => ?_, fun i j hi hj hij => ?_⟩
  · rw [List.length_set]
    have e := frCs_set U o 0 a f ⟨f.ids ++ [s], f.v⟩ (.slice (some ⟨g, 0, none⟩) n cap) hf rfl
    rw [Nat.zero_add] at e
    rw [e]
    exact row_set hrow' _ (by omega)
  · by_cases e : i = a
    · subst e
      rw [List.getElem?_set_self (by exact ha)] at hf'
      simp at hf'; subst hf'
      rw [updU_same]
      refine ownsRow_setCell_other (OwnT.push hown hn) ?_ _
      exact hgl hown
    · rw [List.getElem?_set_ne (fun e' => e e'.symm)] at hf'
      rw [updU_far _ _ e]
      have hi := posA hf'
      have hk : OwnT w' base f'.ids (U i) := World.ownsRow.kept (h.ids i f' hf') hgrow (h.apart i a hi ha e)
      exact ownsRow_setCell_other hk (hgl hk) _
  · rw [List.length_set] at hi hj
    by_cases e : i = a
    · subst e
      rw [updU_same, updU_far _ _ (fun e => hij e.symm)]
      exact .inr fun e => hne j hj (fun e' => hij e'.symm) (by rw [← e]; rfl)
    · rw [updU_far _ _ e]
      by_cases e' : j = a
      · subst e'
        rw [updU_same]
        exact .inr fun e2 => hne i hi e (by rw [e2]; rfl)
      · rw [updU_far _ _ e']; exact h.apart i j hi hj hij
end Go.Proofs.YthbjgfennclidaaGreat
/- Drawn regions none of whose operations turns what was there: what reads alone what stays may be taken first, wherever it was made. No walk. -/
namespace Go.Proofs.YthbjgfennclidaaGreat
set_option linter.unusedVariables false
set_option linter.unusedSimpArgs false
set_option maxRecDepth 100000
open Go Go.RowKit
section
variable {P : Program} {ops : Array Oper} {Q : Exit → Act → World → Prop} {md : Region.Mode}
abbrev Later (w w' : World) : Prop := Below w.heap.size w w'
theorem Later.on {a b c : World} (h1 : Later a b) (h2 : Later b c) : Later a c := h1.trans (h2.mono h1.size)
structure Reads (w w' : World) : Prop where
  size : w.heap.size ≤ w'.heap.size
  cell : ∀ a : Addr, a.block < w.heap.size → w'.cell? a = w.cell? a
theorem Reads.of {w w' : World} (h : Later w w') : Reads w w' := ⟨h.size, fun a ha => h.cell (p := a) ha⟩
variable {R : World → World → Prop}
end
end Go.Proofs.YthbjgfennclidaaGreat
