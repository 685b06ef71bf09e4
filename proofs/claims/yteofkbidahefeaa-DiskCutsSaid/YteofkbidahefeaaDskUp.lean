/- The head of the laws of layer 18; whether deeds are few. Walked. -/
import Derived.Test.YteofkbidahefeaaDskA
import Derived.Test.YteofkbidahefeaaDskB
import Derived.Test.YteofkbidahefeaaDskR
import Derived.Test.YteofkbidahefeaaOpenDk
namespace Go.Proofs.Yteofkbidahefeaa
set_option linter.unusedVariables false
set_option linter.unusedSimpArgs false
set_option maxRecDepth 100000
open Go.RowKit

attribute [local go_sem ↓] run_eq_code
set_option maxHeartbeats 4000000 in
theorem dkUpL_calls (w : World) : Calls Try.prog 5 #[] w fun e w' => e = .returned (.bool true) ∧ Below w.heap.size w w' := by
  have CF := fun v w' h => Lib.hid (dkFuse_calls newDk 2 w.heap.size w.heap.size v w' h)
  have CA := fun v sv w' h hM => Lib.hid (dkAdd_calls ⟨[], some 2, false⟩ [97, 98, 99] w.heap.size w.heap.size v sv w' h (by intro n hn; cases hn; decide) hM (by decide))
  rw [show errV (fuseE newDk 2) = .nilIface from rfl] at CF
  rw [show errV (addE ⟨[], some 2, false⟩ [97, 98, 99]) = .iface 44 (.int .i64 8) from rfl] at CA
  have CD := fun v w' h => Lib.hid (dkDown_calls ⟨[97, 98], none, true⟩ w.heap.size w.heap.size v w' h)
  have CU := fun v w' h => Lib.hid (dkUp_calls ⟨[97, 98], none, true⟩ w.heap.size w.heap.size v w' h)
  have CB := fun v w' h => Lib.hid (dkBytes_calls ⟨[97, 98], none, false⟩ w.heap.size w.heap.size v w' h (by decide))
  have CD2 := fun v w' h => Lib.hid (dkDown_calls ⟨[97, 98], none, false⟩ w.heap.size w.heap.size v w' h)
  have kc := fun (w : World) (C : Array Value) (n c : Nat) => Lib.run_convert_bytes_const (P := Try.prog) w 26 5 C n c Try.underlying26 Try.underlying5
  have eab : strN [97, 98] = ⟨#[97, 98]⟩ := by decide +kernel
  have EAB := Lib.hid eab
  clear eab
  go_enter Try.func5, Try.ntmps5
  go_wp2_with (first
    | (go_at_call 6; (with_reducible refine (dkNew_calls _).mono ?_); rintro e w1 ⟨rfl, hb, hx⟩; have BEL := Lib.hid hb; have HX := Lib.hid hx; clear hb hx)
    | (go_at_call 11; (with_reducible refine (CF _ _ HX.out).out.mono ?_); rintro e w2 ⟨rfl, ht⟩; replace BEL := Lib.hid (BEL.out.trans ht.bel); have HY := Lib.hid ((show Bx w2 w.heap.size w.heap.size (dkA ⟨[], some 2, false⟩ _) _ [] _ from ht.bx).later ((Below.refl _ _).alloc (Nat.le_refl _) (.cells #[.int .u8 97, .int .u8 98, .int .u8 99] 5 (3, 4)))); have BS := Lib.hid (show ByW (w2.alloc (.cells #[.int .u8 97, .int .u8 98, .int .u8 99] 5 (3, 4))) [97, 98, 99] (.slice (some ⟨w2.heap.size, 0, none⟩) 3 3) from by_marked w2 [97, 98, 99] (3, 4) (by decide) (by decide)); replace BEL := Lib.hid (BEL.out.alloc BEL.out.size (.cells #[.int .u8 97, .int .u8 98, .int .u8 99] 5 (3, 4))); clear ht)
    | (go_at_call 18; (with_reducible refine (CA _ _ _ HY.out BS.out).out.mono ?_); rintro e w3 ⟨v3, rfl, ht⟩; replace BEL := Lib.hid (BEL.out.trans ht.bel); have HZ := Lib.hid ht.bx; clear ht)
    | (go_at_call 20; (with_reducible refine (CD2 _ _ HW.out).out.mono ?_); rintro e w5 ⟨rfl, rfl⟩)
    | (go_at_call 20; (with_reducible refine (CD _ _ HZ.out).out.mono ?_); rintro e w4 ⟨rfl, rfl⟩)
    | (go_at_call 13; (with_reducible refine (CU _ _ HZ.out).out.mono ?_); rintro e w6 ⟨rfl, ht⟩; replace BEL := Lib.hid (BEL.out.trans ht.bel); have HW := Lib.hid ht.bx; clear ht)
    | (go_at_call 17; (with_reducible refine (CB _ _ HW.out).out.mono ?_); rintro e w7 ⟨u, rfl, ho, hb⟩; replace BEL := Lib.hid (BEL.out.trans (hb.mono BEL.out.size)); replace HW := Lib.hid (HW.out.later hb); obtain ⟨o1, c1, rfl, _, _⟩ := ho.val; have hc : (convert 26 9 (.slice o1 2 c1)).run Try.prog w7 = .ok (.string (strN [97, 98])) w7 := run_convert_by (ho.by (by decide)); rw [EAB.out] at hc; clear ho hb)
    | fail)
  go_ret
  exact ⟨rfl, BEL.out⟩

def pick8 (n : Int) : Int := if n.tmod 8 < 0 then n.tmod 8 + 8 else n.tmod 8
theorem pick8_le (n : Int) : 0 ≤ pick8 n ∧ pick8 n ≤ 7 := by
  have h1 : n.tmod 8 < 8 := Int.tmod_lt_of_pos n (by decide)
  have h2 : -8 < n.tmod 8 := Int.lt_tmod_of_pos n (by decide)
  unfold pick8
  split <;> omega
set_option maxHeartbeats 1000000 in
theorem pick8_calls (n : Int) (w : World) :
    Calls Try.prog 9 #[.int .i64 n, .int .i64 8] w fun e w' => e = .returned (.int .i64 (pick8 n)) ∧ w = w' := by
  have h1 : n.tmod 8 < 8 := Int.tmod_lt_of_pos n (by decide)
  have h2 : -8 < n.tmod 8 := Int.lt_tmod_of_pos n (by decide)
  unfold pick8
  by_cases h : n.tmod 8 < 0
  · rw [if_pos h]
    go_enter Try.func9, Try.ntmps9
    go_wp2_with fail
    go_ret
    exact ⟨rfl, rfl⟩
  · rw [if_neg h]
    go_enter Try.func9, Try.ntmps9
    go_wp2_with fail
    go_ret
    exact ⟨rfl, rfl⟩

/-- Are deeds few, and short? -/
def fewD (l : List Dd) : Bool := decide (l.length ≤ 100) && l.all fun x => decide (x.b.length ≤ 1000)
def fewDI (l : List Dd) : Int := if fewD l = true then 1 else 0
def FewRel (l : List Dd) (w0 : World) (iv : Value) (wr : World) : Prop := ∃ k : Nat, k ≤ l.length ∧ iv = .int .i64 k ∧ (∀ j x, j < k → l[j]? = some x → x.b.length ≤ 1000) ∧ Hid (w0 = wr)
set_option maxHeartbeats 2000000 in
theorem fewD_calls (l : List Dd) (v : Value) (w : World) (h : DdW w l v) :
    Calls Try.prog 8 #[v] w fun e w' => e = .returned (.int .i64 (fewDI l)) ∧ w = w' := by
  obtain ⟨⟨oa, cap, b, o, rfl, hr⟩, hk⟩ := h
  have hc := hr.len
  have hm := hr.max
  unfold maxLen at hm
  have HR := Lib.hid hr
  have HK := Lib.hid hk
  clear hr hk
  by_cases hl : l.length ≤ 100
  · have HF : Hid (fewDI l = if (l.all fun x => decide (x.b.length ≤ 1000)) = true then 1 else 0) := by
      show fewDI l = _
      unfold fewDI fewD; rw [decide_eq_true hl, Bool.true_and]
    generalize fewDI l = fd at *
    go_enter Try.func8, Try.ntmps8
    go_wp2_with fail
    go_loopw [3] (fun i wr => FewRel l w i wr) (fun i _ => l.length - (intOf i).toNat)
    case atStart => exact ⟨0, Nat.zero_le _, rfl, fun j x hj => by omega, rfl⟩
    case round =>
      obtain ⟨k, hk, rfl, hs, hw⟩ := hrel
      have ew := hw.out
      subst ew
      clear hw
      have HS := Lib.hid hs
      clear hs
      by_cases hlt : k < l.length
      · obtain ⟨x, hx⟩ := getB hlt
        have c2 : w.cell? ⟨b, o + k * 3 + 2, none⟩ = some x.v := HR.out.cell k x hx 2 _ rfl
        obtain ⟨ob, cb, ev, hl2, hm2⟩ := (HK.out x (List.mem_of_getElem? hx)).1.val
        rw [ev] at c2
        have ha := (HR.out.at0 (by omega)).1
        subst ha
        have hz := (HR.out.at0 (by omega)).2
        unfold maxLen at hm2
        have HX := Lib.hid hx
        clear hx ev
        by_cases h3 : x.b.length ≤ 1000
        · have HS2 : Hid (∀ j y, j < k + 1 → l[j]? = some y → y.b.length ≤ 1000) := by
            show ∀ j y, j < k + 1 → l[j]? = some y → y.b.length ≤ 1000
            intro j y hj hy
            rcases Nat.lt_or_ge j k with h | h
            · exact HS.out j y h hy
            · have : j = k := by omega
              subst this
              rw [HX.out] at hy; cases hy; exact h3
          go_wp2_with fail
          go_roundw
          case rel => exact ⟨k + 1, by omega, by go_num, HS2.out, rfl⟩
          case measure => simp [intOf]; omega
        · have e : Hid (fd = 0) := by
            show fd = 0
            rw [HF.out, if_neg (by rw [Bool.not_eq_true, List.all_eq_false]; exact ⟨x, List.mem_of_getElem? HX.out, by simpa using h3⟩)]
          go_wp2_with fail
          go_ret
          exact ⟨ret_int (by rw [e.out]), rfl⟩
      · have e : Hid (fd = 1) := by
          show fd = 1
          rw [HF.out, if_pos]
          rw [List.all_eq_true]
          intro x hx
          obtain ⟨j, hj⟩ := List.getElem?_of_mem hx
          exact decide_eq_true (HS.out j x (by have := posB hj; omega) hj)
        go_wp2_with fail
        go_ret
        exact ⟨ret_int (by rw [e.out]), rfl⟩
  · have e : Hid (fewDI l = 0) := by
      show fewDI l = 0
      unfold fewDI fewD; rw [decide_eq_false hl, Bool.false_and]; rfl
    generalize fewDI l = fd at *
    go_enter Try.func8, Try.ntmps8
    go_wp2_with fail
    go_ret
    exact ⟨ret_int (by rw [e.out]), rfl⟩

end Go.Proofs.Yteofkbidahefeaa
