/- The document's answer for sums, Seal, Open. Walked. -/
import Derived.Test.YtghnephjgffenaaCodS
namespace Go.Proofs.Ytghnephjgffenaa
set_option linter.unusedVariables false
set_option linter.unusedSimpArgs false
set_option maxRecDepth 100000
open Go.RowKit

def BitRel (q : Nat) (s i : Value) : Prop := ∃ k : Nat, k ≤ 8 ∧ i = .int .i64 k ∧ s = .int .u32 (bitsS k q)
set_option maxHeartbeats 2000000 in
theorem refSum_calls (l : List Nat) (v : Value) (w : World) (hB : ByW w l v) :
    Calls Try.prog 19 #[v] w fun e w' => e = .returned (.int .u32 (crcS l)) ∧ w = w' := by
  obtain ⟨oa, cap, b, o, rfl, hB⟩ := hB
  have h1 := hB.len
  have h2 := hB.max
  unfold maxLen at h2
  have HB := Lib.hid hB
  clear hB
  generalize hn : l.length = n at *
  have HN := Lib.hid hn
  clear hn
  go_enter Try.func19, Try.ntmps19
  go_wp2
  go_loop [3, 4] (fun s i => ∃ k : Nat, k ≤ n ∧ i = .int .i64 k ∧ s = .int .u32 (sumS 4294967295 (l.take k))) (fun _ i => n - (intOf i).toNat)
  case atStart => exact ⟨0, by omega, rfl, rfl⟩
  case round =>
    obtain ⟨k, hk, rfl, rfl⟩ := hrel
    have hlt := sumS_lt (l.take k) (c := 4294967295) (by decide) (fun x hx => HB.out.ok x (List.mem_of_mem_take hx))
    by_cases h8 : k < n
    · obtain ⟨x, hx⟩ := getB (l := l) (k := k) (by rw [HN.out]; exact h8)
      obtain ⟨rfl, hb⟩ := HB.out.at0 (by rw [HN.out]; omega)
      have hc := HB.out.cell k x hx
      have hx8 := HB.out.ok x (List.mem_of_getElem? hx)
      have HS := Lib.hid (show sumS 4294967295 (l.take (k + 1)) = byteS (sumS 4294967295 (l.take k)) x by rw [takeB hx, sumS_snoc])
      clear hx
      generalize sumS 4294967295 (l.take k) = d at *
      have e1 := xor_b d x hlt hx8
      have hxl : d ^^^ x < 2 ^ 32 := Nat.xor_lt_two_pow hlt (by omega)
      have HE := Lib.hid (show byteS d x = bitsS 8 (d ^^^ x) from rfl)
      generalize d ^^^ x = q at *
      go_wp2
      go_loop [3, 5] (fun s i => BitRel q s i) (fun _ i => 8 - (intOf i).toNat)
      case atStart => exact ⟨0, by omega, rfl, rfl⟩
      case round =>
        obtain ⟨j, hj, rfl, rfl⟩ := hrel
        have hlt2 := bitsS_lt j hxl
        have HB2 := Lib.hid (bitsS_succ j q)
        have HX := Lib.hid (xor_p (bitsS j q) hlt2)
        by_cases h9 : j < 8
        · generalize bitsS j q = d' at *
          by_cases hd : d' % 2 = 1
          · have HF := Lib.hid (show bitS d' = (d' / 2) ^^^ crcP by unfold bitS; rw [if_pos hd])
            have q1 : (((d' : Int) % 2) == 1) = true := by simp; omega
            go_wp2
            go_round
            case rel => exact ⟨j + 1, by omega, by go_num, by rw [HB2.out, HF.out, HX.out]⟩
            case measure => simp [intOf]; omega
          · have HF := Lib.hid (show bitS d' = d' / 2 by unfold bitS; rw [if_neg hd])
            have q1 : (((d' : Int) % 2) == 1) = false := by simp; omega
            go_wp2
            go_round
            case rel => exact ⟨j + 1, by omega, by go_num, by rw [HB2.out, HF.out]; go_num⟩
            case measure => simp [intOf]; omega
        · obtain rfl : j = 8 := by omega
          have HY := Lib.hid (show bitsS 8 q = sumS 4294967295 (l.take (k + 1)) by rw [HS.out, HE.out])
          generalize bitsS 8 q = z at *
          go_wp2
          go_round
          case rel => exact ⟨k + 1, by omega, by go_num, by rw [HY.out]⟩
          case measure => simp [intOf]; omega
    · obtain rfl : k = n := by omega
      have e : l.take k = l := List.take_of_length_le (by rw [HN.out]; omega)
      rw [e] at hlt ⊢
      have HE := Lib.hid (show crcS l = sumS 4294967295 l ^^^ 4294967295 from rfl)
      generalize sumS 4294967295 l = d at *
      have e1 : bits .xor .u32 (d : Int) 4294967295 = ((d ^^^ 4294967295 : Nat) : Int) := u32_xor_nat d 4294967295 (by omega) (by decide)
      clear e
      go_wp2
      go_ret
      exact ⟨ret_int (by rw [HE.out]), rfl⟩

/-- The bytes of a sum, up to k of them. -/
theorem four_step {c k : Nat} (hk : k < 4) : (fourL c).take (k + 1) = (fourL c).take k ++ [c / 256 ^ k % 256] := by
  obtain rfl | rfl | rfl | rfl : k = 0 ∨ k = 1 ∨ k = 2 ∨ k = 3 := by omega
  all_goals simp [fourL]
theorem pow_step (c k : Nat) : c / 256 ^ k / 256 = c / 256 ^ (k + 1) := by rw [Nat.div_div_eq_div_mul, Nat.pow_succ]
def SealRel (l : List Nat) (c : Nat) (w0 : World) (s b i : Value) (wr : World) : Prop := ∃ k : Nat, k ≤ 4 ∧ i = .int .i64 k ∧ s = .int .u32 (c / 256 ^ k : Nat) ∧ Hid (OwnB wr w0.heap.size (l ++ (fourL c).take k) b) ∧ Hid (Below w0.heap.size w0 wr)
set_option maxHeartbeats 2000000 in
theorem refSeal_calls (l : List Nat) (v : Value) (w : World) (hB : ByW w l v) (hn : l.length ≤ 140737488350000) :
    Calls Try.prog 21 #[v] w fun e w' => ∃ u, e = .returned u ∧ OwnB w' w.heap.size (sealL l) u ∧ Below w.heap.size w w' := by
  have hcrc := crcS_lt hB.ok
  have C := Lib.hid (refSum_calls l v w hB)
  have A := (Below.refl w.heap.size w).alloc (Nat.le_refl _) (.cells #[] 5)
  have O : OwnB (w.alloc (.cells #[] 5)) w.heap.size [] (.slice (some ⟨w.heap.size, 0, none⟩) 0 0) := own_new (w := w) [] (Nat.le_refl _) (by decide)
  have HP := Lib.hid (fun ty => run_append_by ty O (hB.later (w' := w.alloc (.cells #[] 5)) ((Below.refl _ _).alloc (Nat.le_refl _) _)) (by simp; omega) (by simp))
  have HA := Lib.hid A
  have HO := Lib.hid O
  have HE := Lib.hid (show sealL l = l ++ (fourL (crcS l)).take 4 from rfl)
  obtain ⟨oa, cap, rfl, _, _⟩ := hB.val
  clear A O hB
  generalize crcS l = c at *
  go_enter Try.func21, Try.ntmps21
  go_wp2_with (first
    | (go_at_call 19; (with_reducible refine C.out.mono ?_); rintro e w1 ⟨rfl, rfl⟩)
    | (at_builtin; obtain ⟨v1, w1, hrun, hown, hgr⟩ := HP.out _; refine Lib.wpList_append_run _ rfl _ _ _ _ rfl _ _ rfl rfl _ _ hrun ?_; have B1 := Lib.hid (below_pushB HO.out HA.out (Nat.le_refl _) hgr (by simp)); have O1 := Lib.hid hown; clear hown hgr HP hrun))
  go_loopw [3, 4, 5] (fun s b i wr => SealRel l c w s b i wr) (fun _ _ i _ => 4 - (intOf i).toNat)
  case atStart => exact ⟨0, by omega, rfl, by simp, Lib.hid (by simpa using O1.out), B1⟩
  case round =>
    obtain ⟨k, hk, rfl, rfl, OW, BL⟩ := hrel
    by_cases h4 : k < 4
    · have hcl : c / 256 ^ k < 4294967296 := Nat.lt_of_le_of_lt (Nat.div_le_self _ _) hcrc
      have HF := Lib.hid (four_step (c := c) h4)
      have HG := Lib.hid (pow_step c k)
      generalize c / 256 ^ k = d at *
      have hl4 : ((fourL c).take k).length ≤ 4 := by rw [List.length_take, fourL_len]; omega
      have P := fun ty => push_byte ty OW.out BL.out BL.out.size (d % 256) ((d : Int) % 256) (by omega) (by omega) (by rw [List.length_append]; omega)
      have HP := Lib.hid P
      obtain ⟨ob, cb, rfl, _, _⟩ := OW.out.val
      clear P
      go_wp2_with (at_builtin; obtain ⟨v', w', hrun, hown, hgr⟩ := HP.out _; refine Lib.wpList_append_run _ rfl _ _ _ _ rfl _ _ rfl rfl _ _ hrun ?_)
      have HO2 := Lib.hid hown
      have HB2 := Lib.hid hgr
      clear hown hgr hrun
      go_roundw
      case rel => exact ⟨k + 1, by omega, by go_num, by rw [← HG.out]; go_num, Lib.hid (by rw [HF.out, ← List.append_assoc]; exact HO2.out), HB2⟩
      case measure => simp [intOf]; omega
    · obtain rfl : k = 4 := by omega
      go_wp2
      go_ret
      exact ⟨_, rfl, by rw [HE.out]; exact OW.out, BL.out⟩

theorem four_eq {c x0 x1 x2 x3 : Nat} (h : c < 2 ^ 32) (h0 : x0 < 256) (h1 : x1 < 256) (h2 : x2 < 256) (h3 : x3 < 256) : [x0, x1, x2, x3] = fourL c ↔ c = x0 + 256 * x1 + 65536 * x2 + 16777216 * x3 := by
  simp [fourL]
  omega
/-- What the document's Open tells. -/
def ROpenT (l : List Nat) (W w' : World) (e : Ending) : Prop :=
  (openL l = none ∧ e = .returned (.tuple #[.slice none 0 0, .bool false]) ∧ Below W.heap.size W w') ∨
  ∃ m v, openL l = some m ∧ e = .returned (.tuple #[v, .bool true]) ∧ OwnB w' W.heap.size m v ∧ Below W.heap.size W w'
attribute [local go_sem ↓] run_slice_lhI run_slice_hI run_slice_lI
set_option maxHeartbeats 4000000 in
theorem refOpen_calls (l : List Nat) (v : Value) (w : World) (hB : ByW w l v) (hn : l.length ≤ 140737488350000) :
    Calls Try.prog 17 #[v] w fun e w' => ROpenT l w w' e := by
  have HB := Lib.hid hB
  obtain ⟨oa, cap, rfl, h1, h2⟩ := hB.val
  unfold maxLen at h2
  by_cases h4 : 4 ≤ l.length
  · obtain ⟨n, hN⟩ : ∃ n, l.length = n + 4 := ⟨l.length - 4, by omega⟩
    have eo : openL l = if l.drop n = fourL (crcS (l.take n)) then some (l.take n) else none := by
      unfold openL; rw [hN, show n + 4 - 4 = n by omega]; simp
    have hT : ByW w (l.take n) (.slice (slA oa 0 cap) n cap) := hB.upto n (by omega)
    have hc : crcS (l.take n) < 2 ^ 32 := crcS_lt hT.ok
    have HTL : (l.take n).length = n := by simp; omega
    obtain ⟨x0, y0⟩ := getB (l := l) (k := n) (by omega)
    obtain ⟨x1, y1⟩ := getB (l := l) (k := n + 1) (by omega)
    obtain ⟨x2, y2⟩ := getB (l := l) (k := n + 2) (by omega)
    obtain ⟨x3, y3⟩ := getB (l := l) (k := n + 3) (by omega)
    have g0 := hB.ok _ (List.mem_of_getElem? y0)
    have g1 := hB.ok _ (List.mem_of_getElem? y1)
    have g2 := hB.ok _ (List.mem_of_getElem? y2)
    have g3 := hB.ok _ (List.mem_of_getElem? y3)
    have hD : l.drop n = [x0, x1, x2, x3] := by
      apply List.ext_getElem?
      intro i
      rw [List.getElem?_drop]
      obtain rfl | rfl | rfl | rfl | h : i = 0 ∨ i = 1 ∨ i = 2 ∨ i = 3 ∨ 4 ≤ i := by omega
      · simpa using y0
      · simpa using y1
      · simpa using y2
      · simpa using y3
      · rw [List.getElem?_eq_none (by omega), List.getElem?_eq_none (by simp; omega)]
    rw [hD] at eo
    have HQ := Lib.hid (four_eq hc g0 g1 g2 g3)
    have HO := Lib.hid eo
    obtain ⟨oa', cap', b, o, e, hA⟩ := hB
    cases e
    obtain ⟨rfl, hb⟩ := hA.at0 (by omega)
    have es : slA (some ⟨b, o, none⟩) 0 cap = some ⟨b, o, none⟩ := by
      unfold slA; split
      · rfl
      · simp [addB]
    rw [es] at hT
    have HS := fun w' h => Lib.hid (refSum_calls (l.take n) (.slice (some ⟨b, o, none⟩) n cap) w' h)
    have HT := Lib.hid hT
    have HP := fun (W : World) (hW : Below w.heap.size w W) => Lib.hid (fun ty => run_append_by ty (w := W.alloc (.cells #[] 5)) (base := w.heap.size) (own_new (w := W) [] hW.size (by decide)) ((hT.later hW).later ((Below.refl _ _).alloc (Nat.le_refl _) _)) (by rw [HTL]; simp; omega) (by have := hW.size; simp; omega))
    have c0 := hA.cell _ _ y0
    have c1 := hA.cell _ _ y1
    have c2 := hA.cell _ _ y2
    have c3 := hA.cell _ _ y3
    rw [hN]
    clear y0 y1 y2 y3 hD eo hT hA HB es HTL
    generalize crcS (l.take n) = c at *
    by_cases hq : c = x0 + 256 * x1 + 65536 * x2 + 16777216 * x3
    · have HO2 := Lib.hid (HO.out.trans (if_pos (HQ.out.2 hq)))
      have q1 : ((c : Int) == (x0 : Int) + 256 * x1 + 65536 * x2 + 16777216 * x3) = true := by simp; omega
      have q2 : ((c : Int) != (x0 : Int) + 256 * x1 + 65536 * x2 + 16777216 * x3) = false := by simp; omega
      have HQ2 := Lib.hid hq
      clear hq HO HQ
      go_enter Try.func17, Try.ntmps17
      go_wp2
      go_quiet (fail)
      have BEL : Below w.heap.size w (w.drewN nq) := ⟨rfl, rfl, rfl, Nat.le_refl _, fun _ _ => rfl⟩
      have HBE := Lib.hid BEL
      clear BEL
      go_wp2_with (first
        | (go_at_call 19; (with_reducible refine (HS _ (HT.out.later HBE.out)).out.mono ?_); rintro e w1 ⟨rfl, rfl⟩)
        | (at_builtin; obtain ⟨v1, w1, hrun, hown, hgr⟩ := (HP _ HBE.out).out _; refine Lib.wpList_append_run _ rfl _ _ _ _ rfl _ _ rfl rfl _ _ hrun ?_))
      go_ret2
      exact .inr ⟨_, _, HO2.out, rfl, by simpa using hown, below_pushB (own_new (w := w.drewN nq) (base := w.heap.size) [] HBE.out.size (by decide)) (HBE.out.alloc HBE.out.size _) (Nat.le_refl _) hgr (by simp)⟩
    · have HO2 := Lib.hid (HO.out.trans (if_neg (fun h => hq (HQ.out.1 h))))
      have q1 : ((c : Int) == (x0 : Int) + 256 * x1 + 65536 * x2 + 16777216 * x3) = false := by simp; omega
      have q2 : ((c : Int) != (x0 : Int) + 256 * x1 + 65536 * x2 + 16777216 * x3) = true := by simp; omega
      have HQ2 := Lib.hid hq
      clear hq HO HQ HP
      go_enter Try.func17, Try.ntmps17
      go_wp2
      go_quiet (fail)
      have BEL : Below w.heap.size w (w.drewN nq) := ⟨rfl, rfl, rfl, Nat.le_refl _, fun _ _ => rfl⟩
      have HBE := Lib.hid BEL
      clear BEL
      go_wp2_with (go_at_call 19; (with_reducible refine (HS _ (HT.out.later HBE.out)).out.mono ?_); rintro e w1 ⟨rfl, rfl⟩)
      go_ret2
      exact .inl ⟨HO2.out, rfl, HBE.out⟩
  · have e : openL l = none := by unfold openL; rw [if_neg (by omega)]
    have E := Lib.hid e
    clear e hB HB
    have s4 : decide ((l.length : Int) < 4) = true := by simp; omega
    go_enter Try.func17, Try.ntmps17
    go_wp2
    go_ret2
    exact .inl ⟨E.out, rfl, Below.refl _ _⟩
theorem refOpen_none {l : List Nat} {v : Value} {w : World} (hB : ByW w l v) (hn : l.length ≤ 140737488350000) (h : openL l = none) :
    Calls Try.prog 17 #[v] w fun e w' => e = .returned (.tuple #[.slice none 0 0, .bool false]) ∧ Below w.heap.size w w' :=
  (refOpen_calls l v w hB hn).mono fun e w' h' => by
    rcases h' with ⟨_, h1, h2⟩ | ⟨m, v, h1, _⟩
    · exact ⟨h1, h2⟩
    · rw [h] at h1; cases h1
theorem refOpen_some {l m : List Nat} {v : Value} {w : World} (hB : ByW w l v) (hn : l.length ≤ 140737488350000) (h : openL l = some m) :
    Calls Try.prog 17 #[v] w fun e w' => ∃ u, e = .returned (.tuple #[u, .bool true]) ∧ OwnB w' w.heap.size m u ∧ Below w.heap.size w w' :=
  (refOpen_calls l v w hB hn).mono fun e w' h' => by
    rcases h' with ⟨h1, _⟩ | ⟨m', v, h1, h2, h3, h4⟩
    · rw [h] at h1; cases h1
    · rw [h] at h1; cases h1; exact ⟨v, h2, h3, h4⟩
end Go.Proofs.Ytghnephjgffenaa
