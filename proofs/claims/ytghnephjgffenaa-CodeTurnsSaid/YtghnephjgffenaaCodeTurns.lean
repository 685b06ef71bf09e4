/- CodeTurns: one byte that is turned; the law's walk. -/
import Derived.Test.YtghnephjgffenaaCodUp
import Derived.OpenShut
namespace Go.Proofs.Ytghnephjgffenaa
set_option linter.unusedVariables false
set_option linter.unusedSimpArgs false
set_option maxRecDepth 100000
open Go.RowKit

theorem set_split {l : List Nat} {i x z : Nat} (hx : l[i]? = some x) : l.set i z = l.take i ++ z :: l.drop (i + 1) ∧ l = l.take i ++ x :: l.drop (i + 1) := by
  obtain ⟨hi, e⟩ := List.getElem?_eq_some_iff.1 hx
  refine ⟨List.set_eq_take_append_cons_drop.trans (if_pos hi), ?_⟩
  rw [← e, ← List.drop_eq_getElem_cons hi, List.take_append_drop]
theorem xor_ne {x y : Nat} (hy : y ≠ 0) : x ^^^ y ≠ x := by
  intro h
  have h2 := congrArg (x ^^^ ·) h
  simp only [← Nat.xor_assoc, Nat.xor_self, Nat.zero_xor] at h2
  exact hy h2
/-- Of sealed bytes one is turned. -/
theorem open_turned {b : List Nat} (hb : ∀ n ∈ b, n < 256) {i x z : Nat} (hx : (sealL b)[i]? = some x) (hz : z < 256) (hne : z ≠ x) : openL ((sealL b).set i z) = none := by
  have hlen : ((sealL b).set i z).length = b.length + 4 := by simp [sealL, fourL_len]
  unfold openL
  rw [hlen, show b.length + 4 - 4 = b.length by omega, if_neg]
  rintro ⟨_, he⟩
  unfold sealL at hx he
  by_cases hi : i < b.length
  · rw [List.getElem?_append_left hi] at hx
    rw [List.set_append_left i z hi] at he
    rw [List.drop_left' (by simp), List.take_left' (by simp)] at he
    obtain ⟨e1, e2⟩ := set_split (z := z) hx
    have hset : ∀ n ∈ b.set i z, n < 256 := by
      intro n hn
      rcases List.mem_or_eq_of_mem_set hn with h | h
      · exact hb n h
      · subst h; exact hz
    have h := fourL_inj (crcS_lt hb) (crcS_lt hset) he
    rw [e1] at h
    conv at h => lhs; rw [e2]
    exact crcS_turn (x := x) (y := z) (b.take i) (b.drop (i + 1)) (fun n hn => hb n (List.mem_of_mem_take hn)) (fun n hn => hb n (List.mem_of_mem_drop hn)) (hb x (List.mem_of_getElem? hx)) hz (Ne.symm hne) h
  · rw [List.getElem?_append_right (by omega)] at hx
    rw [List.set_append_right i z (by omega)] at he
    rw [List.drop_left, List.take_left] at he
    have h2 : ((fourL (crcS b)).set (i - b.length) z)[i - b.length]? = some z := by
      rw [List.getElem?_set_self (List.getElem?_eq_some_iff.1 hx).1]
    rw [he, hx] at h2
    exact hne (Option.some.inj h2).symm
def pickN (n : Int) (m : Nat) : Int := if n.tmod m < 0 then n.tmod m + m else n.tmod m
theorem pickN_lt (n : Int) {m : Nat} (hm : 0 < m) : 0 ≤ pickN n m ∧ pickN n m < m := by
  have h1 : n.tmod m < m := Int.tmod_lt_of_pos n (by omega)
  have h2 : -(m : Int) < n.tmod m := Int.lt_tmod_of_pos n (by omega)
  unfold pickN
  split <;> omega
set_option maxRecDepth 100000 in
set_option maxHeartbeats 1000000 in
theorem pickN_calls (n : Int) (m : Nat) (hm : 0 < m) (hM : m ≤ 100000) (w : World) :
    Calls Try.prog 22 #[.int .i64 n, .int .i64 m] w fun e w' => e = .returned (.int .i64 (pickN n m)) ∧ w = w' := by
  have h1 : n.tmod m < m := Int.tmod_lt_of_pos n (by omega)
  have h2 : -(m : Int) < n.tmod m := Int.lt_tmod_of_pos n (by omega)
  unfold pickN
  have h3 : (m : Int) ≠ 0 := by omega
  have h4 : m ≠ 0 := by omega
  by_cases h : n.tmod m < 0
  · rw [if_pos h]
    go_enter Try.func22, Try.ntmps22
    go_wp2_with fail
    go_ret
    exact ⟨rfl, rfl⟩
  · rw [if_neg h]
    go_enter Try.func22, Try.ntmps22
    go_wp2_with fail
    go_ret
    exact ⟨rfl, rfl⟩
/-- One byte of what is owned is set. -/
theorem OwnB.put {w : World} {base g n cap : Nat} {l : List Nat} (h : OwnB w base l (.slice (some ⟨g, 0, none⟩) n cap)) (i z : Nat) :
    OwnB (w.setCell ⟨g, i, none⟩ (.int .u8 (z : Int))) base (l.set i z) (.slice (some ⟨g, 0, none⟩) n cap) := by
  obtain ⟨oa, cap', e, _, _⟩ := h.val
  cases e
  have := (World.ownsRow.stored h i (.int .u8 (z : Int))).1
  unfold OwnB
  rw [List.length_set]
  have e : byC (l.set i z) = (byC l).set i (.int .u8 (z : Int)) := by unfold byC; rw [List.map_set]
  rw [e]
  exact this
attribute [local go_sem ↓] run_eq_err
set_option maxHeartbeats 4000000 in
set_option maxRecDepth 100000 in
theorem codeTurns_calls (b : List Nat) (v : Value) (n y : Int) (w : World) (hB : ByW w b v) (hy : (Lit.int .u8 y).wf = true) :
    Calls Try.prog 6 #[v, .int .i64 n, .int .u8 y] w fun e w' => e = .returned (.bool true) ∧ Below w.heap.size w w' := by
  have UP := Lib.hid (codeUp_calls w)
  have HB := Lib.hid hB
  obtain ⟨oa, cap, rfl, _, _⟩ := hB.val
  clear hB
  obtain ⟨y1, y2⟩ := bounds_u8 hy
  clear hy
  by_cases h0 : 10000 < b.length
  · have q : decide ((10000 : Int) < b.length) = true := by simp; omega
    go_enter Try.func6, Try.ntmps6
    go_wp2_with (go_at_call 7; (with_reducible refine UP.out.mono ?_); rintro e w0 ⟨rfl, hb0⟩)
    go_ret
    exact ⟨rfl, hb0⟩
  have q : decide ((10000 : Int) < b.length) = false := by simp; omega
  by_cases hy0 : y = 0
  · subst hy0
    go_enter Try.func6, Try.ntmps6
    go_wp2_with (go_at_call 7; (with_reducible refine UP.out.mono ?_); rintro e w0 ⟨rfl, hb0⟩)
    go_ret
    exact ⟨rfl, hb0⟩
  · have q2 : (y == 0) = false := by simpa using hy0
    have hs : (sealL b).length = b.length + 4 := by simp [sealL, fourL_len]
    have hok := sealL_lt HB.out.ok
    have hlen : b.length ≤ 140737488350000 := by omega
    have CE := fun w' h => Lib.hid (seal_calls b (.slice oa b.length cap) w' h hlen)
    have OT := fun i x z (hx : (sealL b)[i]? = some x) (hz : z < 256) (hne : z ≠ x) => open_turned HB.out.ok hx hz hne
    generalize sealL b = l at *
    have PK := fun w' => Lib.hid (pickN_calls n l.length (by omega) (by omega) w')
    obtain ⟨p1, p2⟩ := pickN_lt n (m := l.length) (by omega)
    obtain ⟨i, hi⟩ : ∃ i : Nat, pickN n l.length = i := ⟨(pickN n l.length).toNat, by omega⟩
    rw [hi] at PK p1 p2
    clear hi
    obtain ⟨x, hx⟩ := getB (l := l) (k := i) (by omega)
    have hx8 := hok x (List.mem_of_getElem? hx)
    obtain ⟨z, rfl⟩ : ∃ z : Nat, y = z := ⟨y.toNat, by omega⟩
    have hxz : x ^^^ z < 256 := Nat.xor_lt_two_pow (n := 8) hx8 (by omega)
    have ot := OT i x (x ^^^ z) hx hxz (xor_ne (by omega))
    have HOT := Lib.hid ot
    have hbit := u8_xor_nat x z hx8 (by omega)
    have HX := Lib.hid hx
    have HOK := Lib.hid hok
    have hset : ∀ m ∈ l.set i (x ^^^ z), m < 256 := by
      intro m hm
      rcases List.mem_or_eq_of_mem_set hm with h | h
      · exact hok m h
      · subst h; exact hxz
    have HSET := Lib.hid hset
    clear hset
    have HL := Lib.hid hs
    have q3 : ((l.length : Int) == (b.length : Int) + 4) = true := by simp; omega
    have q4 : ((l.length : Int) != (b.length : Int) + 4) = false := by simp; omega
    generalize x ^^^ z = xz at *
    have hl1 : l.length ≤ 10004 := by omega
    have hl2 : 0 < l.length := by omega
    clear hok OT ot hx hs
    go_enter Try.func6, Try.ntmps6
    go_wp2_with (first
      | (go_at_call 7; (with_reducible refine UP.out.mono ?_); rintro e w0 ⟨rfl, hb0⟩; have BEL := Lib.hid hb0; have HB1 := Lib.hid (HB.out.later hb0); clear hb0)
      | (go_at_call 20; (with_reducible refine (CE _ HB1.out).out.mono ?_); rintro e w1 ⟨v1, rfl, h1, hb1⟩; obtain ⟨o1, c1, rfl, _, _⟩ := h1.val; have B1 := Lib.hid (h1.by HOK.out); have BEL1 := Lib.hid (BEL.out.trans (hb1.mono BEL.out.size)); have A1 := Lib.hid (BEL1.out.alloc BEL1.out.size (.cells #[] 5)); have HP := Lib.hid (fun ty => run_append_by ty (w := w1.alloc (.cells #[] 5)) (base := w.heap.size) (own_new (w := w1) [] BEL1.out.size (by decide)) (B1.out.later ((Below.refl _ _).alloc (Nat.le_refl _) _)) (by simp; omega) A1.out.size); clear h1 hb1)
      | (at_builtin; obtain ⟨v2, w2, hrun, hown, hgr⟩ := HP.out _; refine Lib.wpList_append_run _ rfl _ _ _ _ rfl _ _ rfl rfl _ _ hrun ?_; have BEL2 := Lib.hid (below_pushB (own_new (w := w1) (base := w.heap.size) [] BEL1.out.size (by decide)) A1.out (Nat.le_refl _) hgr A1.out.size); rw [List.nil_append] at hown; obtain ⟨o2, c2, g2, rfl, _, _, hg2⟩ := row_slice hown; obtain ⟨rfl, hg3, hg4⟩ := hg2 (by omega); have O2 := Lib.hid hown; have cx := (World.ownsRow.cellAt hown i (by omega)).trans (show (byC l)[i]? = some (.int .u8 (x : Int)) from by simp [byC, HX.out]); have fx := (World.ownsRow.frozenAt hown i); clear hown hgr HP hrun hg2)
      | (go_at_call 22; (with_reducible refine (PK _).out.mono ?_); rintro e w3 ⟨rfl, rfl⟩)
      | (go_at_call 16; (with_reducible refine (open_none ((O2.out.put i xz).by HSET.out) (by rw [List.length_set]; omega) HOT.out).mono ?_); rintro e w4 ⟨rfl, hb4⟩; have BEL4 := Lib.hid ((BEL2.out.setCell hg3 _).trans (hb4.mono (BEL2.out.setCell hg3 _).size)); clear hb4))
    go_ret
    exact ⟨rfl, BEL4.out⟩
end Go.Proofs.Ytghnephjgffenaa
