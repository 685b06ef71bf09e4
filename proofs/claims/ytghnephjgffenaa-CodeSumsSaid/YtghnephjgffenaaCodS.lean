/- The code's four bytes of a sum; bytes.Equal, bytes.Clone; Seal, Open. Walked. -/
import Derived.Test.YtghnephjgffenaaCodT
import Derived.Test.YtghnephjgffenaaRegM
import Derived.Deep.RegionHeld3
import Derived.Deep.RegionLaw
import Derived.Deep.RegionWith
import Derived.Lib.SliceRun
namespace Go.Proofs.Ytghnephjgffenaa
set_option linter.unusedVariables false
set_option linter.unusedSimpArgs false
set_option maxRecDepth 100000
open Go.RowKit

def fourL (c : Nat) : List Nat := [c % 256, c / 256 % 256, c / 65536 % 256, c / 16777216 % 256]
theorem fourL_lt (c : Nat) : ∀ n ∈ fourL c, n < 256 := by
  intro n hn
  simp [fourL] at hn
  omega
theorem fourL_len (c : Nat) : (fourL c).length = 4 := rfl
theorem fourL_inj {c d : Nat} (hc : c < 2 ^ 32) (hd : d < 2 ^ 32) (h : fourL c = fourL d) : c = d := by
  simp [fourL] at h
  omega
theorem byC_four (c : Nat) (hc : c < 2 ^ 32) : (byC (fourL c)).toArray = #[.int .u8 ((c : Int) % 256), .int .u8 ((c : Int) / 256 % 256), .int .u8 ((c : Int) / 65536 % 256), .int .u8 ((c : Int) / 16777216)] := by
  simp [byC, fourL]
  omega
set_option maxHeartbeats 1000000 in
theorem four_calls (c : Nat) (hc : c < 2 ^ 32) (w : World) :
    Calls Try.prog 26 #[.int .u32 c] w fun e w' => ∃ v, e = .returned v ∧ OwnB w' w.heap.size (fourL c) v ∧ Below w.heap.size w w' := by
  have H := (own_new (w := w) (fourL c) (Nat.le_refl _) (by rw [fourL_len]; decide))
  rw [byC_four c hc] at H
  replace H := Lib.hid H
  go_enter Try.func26, Try.ntmps26
  go_wp2
  go_ret
  exact ⟨_, rfl, H.out, (Below.refl _ _).alloc (Nat.le_refl _) _⟩
/-- Are the bytes the same? -/
def eqN (l m : List Nat) : Bool := (strN l).toList == (strN m).toList
theorem eqN_iff {l m : List Nat} (hl : ∀ n ∈ l, n < 256) (hm : ∀ n ∈ m, n < 256) : eqN l m = true ↔ l = m := by
  unfold eqN
  rw [tlB]
  exact ⟨strN_inj hl hm, fun e => by rw [e]⟩
theorem equal_calls (l m : List Nat) (v u : Value) (w : World) (hB : ByW w l v) (hM : ByW w m u) :
    Calls Try.prog 25 #[v, u] w fun e w' => e = .returned (.bool (eqN l m)) ∧ w = w' := by
  have r1 := run_convert_by hB
  have r2 := run_convert_by hM
  obtain ⟨oa, cap, rfl, _, _⟩ := hB.val
  obtain ⟨ob, cb, rfl, _, _⟩ := hM.val
  clear hB hM
  go_enter Try.func25, Try.ntmps25
  go_wp2
  go_ret
  exact ⟨rfl, rfl⟩
set_option maxHeartbeats 1000000 in
theorem clone_calls (l : List Nat) (v : Value) (w : World) (hB : ByW w l v) (hn : l.length ≤ 140737488355328) :
    Calls Try.prog 27 #[v] w fun e w' => ∃ u, e = .returned u ∧ OwnB w' w.heap.size l u ∧ Below w.heap.size w w' := by
  have P := fun ty => run_append_by ty (w := w.alloc (.cells #[] 5)) (base := w.heap.size) (own_new [] (Nat.le_refl _) (by decide)) (hB.later ((Below.refl _ _).alloc (Nat.le_refl _) _)) (by simpa using hn) (by simp)
  have HP := Lib.hid P
  have HB := Lib.hid hB
  clear P
  have q : ∀ (w : World) (a : Option Addr) (n c n' c' : Nat), (binOp .eql 22 (.slice a n c) (.slice none n' c')).run Try.prog w = .ok (.bool a.isNone) w := fun w a n c n' c' => Lib.run_eql_slice_nil w _ _ a n c n' c' Try.underlying22
  obtain ⟨oa, cap, rfl, _, _⟩ := hB.val
  clear hB
  cases oa with
  | none =>
    have h0 : l.length = 0 := by
      obtain ⟨oa', cap', b, o, e, h⟩ := HB.out
      rcases Nat.eq_zero_or_pos l.length with h0 | h0
      · exact h0
      · have := (h.at0 h0).1
        rw [this] at e; cases e
    obtain rfl : l = [] := List.length_eq_zero_iff.1 h0
    go_enter Try.func27, Try.ntmps27
    go_wp2
    go_ret
    exact ⟨_, rfl, OwnB.nil _ _, Below.refl _ _⟩
  | some a =>
    go_enter Try.func27, Try.ntmps27
    go_wp2_with (at_builtin; obtain ⟨v', w', hrun, hown, hgr⟩ := HP.out _; refine Lib.wpList_append_run _ rfl _ _ _ _ rfl _ _ rfl rfl _ _ hrun ?_)
    go_ret
    exact ⟨_, rfl, by simpa using hown, below_pushB (own_new (w := w) [] (Nat.le_refl _) (by decide)) ((Below.refl _ _).alloc (Nat.le_refl _) _) (Nat.le_refl _) hgr (by simp)⟩

def sealL (l : List Nat) : List Nat := l ++ fourL (crcS l)
theorem sealL_lt {l : List Nat} (h : ∀ n ∈ l, n < 256) : ∀ n ∈ sealL l, n < 256 := by
  intro n hn
  rcases List.mem_append.1 hn with hn | hn
  · exact h n hn
  · exact fourL_lt _ n hn
set_option maxHeartbeats 2000000 in
theorem seal_calls (l : List Nat) (v : Value) (w : World) (hB : ByW w l v) (hn : l.length ≤ 140737488350000) :
    Calls Try.prog 20 #[v] w fun e w' => ∃ u, e = .returned u ∧ OwnB w' w.heap.size (sealL l) u ∧ Below w.heap.size w w' := by
  obtain ⟨j0, hj, hy0, hy1, hy2⟩ := info_parts info_byte
  have hcrc := crcS_lt hB.ok
  have HB := Lib.hid hB
  obtain ⟨oa, cap, rfl, _, _⟩ := hB.val
  clear hB
  have hm : (l.length : Int) + 4 = ((l.length + 4 : Nat) : Int) := by omega
  have HM := Lib.hid hm
  clear hm
  go_enter Try.func20, Try.ntmps20
  go_wp2_with (first
    | (at_make; rw [HM.out]; refine wpList_make_own _ rfl _ _ 22 rfl w.heap.size 5 j0 _ 1 Try.underlying22 hj hy0 hy1 .i64 .i64 _ (l.length + 4) rfl rfl rfl (by rw [hy2]; omega) (by unfold maxLen; omega) (Nat.le_refl _) ?_; intro w0 hown0 hgrow0; have O0 := Lib.hid (show OwnB w0 w.heap.size [] _ from hown0); have BL0 := Lib.hid ((Below.refl w.heap.size w).grown hgrow0 (Nat.le_refl _) (fun _ h => by cases h)); have HB0 := Lib.hid (HB.out.later BL0.out); have HP1 := Lib.hid (fun ty => run_append_by ty O0.out HB0.out (by simp; omega) BL0.out.size); clear hown0 hgrow0)
    | (at_builtin; obtain ⟨v1, w1, hrun, hown, hgr⟩ := HP1.out _; refine Lib.wpList_append_run _ rfl _ _ _ _ rfl _ _ rfl rfl _ _ hrun ?_; have BL1 := Lib.hid (below_pushB O0.out BL0.out (Nat.le_refl _) hgr BL0.out.size); have HB1 := Lib.hid (HB.out.later BL1.out); obtain ⟨ob, cb, rfl, _, _⟩ := hown.val; have O1 := Lib.hid hown; clear hown hgr HP1 hrun)
    | (go_at_call 18; (with_reducible refine (sum_calls _ _ _ HB1.out).mono ?_); rintro e w1 ⟨rfl, rfl⟩)
    | (go_at_call 26; (with_reducible refine (four_calls _ hcrc _).mono ?_); rintro e w2 ⟨v2, rfl, h2, hb2⟩; have O2 := Lib.hid (O1.out.later hb2); have BL2 := Lib.hid (BL1.out.trans (hb2.mono BL1.out.size)); have HP2 := Lib.hid (fun ty => run_append_by ty O2.out (h2.by (fourL_lt _)) (by rw [fourL_len]; simp; omega) BL2.out.size); obtain ⟨oc, cc, rfl, _, _⟩ := h2.val; clear h2 hb2)
    | (at_builtin; obtain ⟨v3, w3, hrun, hown, hgr⟩ := HP2.out _; refine Lib.wpList_append_run _ rfl _ _ _ _ rfl _ _ rfl rfl _ _ hrun ?_))
  go_ret
  exact ⟨_, rfl, hown, below_pushB O2.out BL2.out (Nat.le_refl _) hgr BL2.out.size⟩

/-- What was sealed. -/
def openL (l : List Nat) : Option (List Nat) := if 4 ≤ l.length ∧ l.drop (l.length - 4) = fourL (crcS (l.take (l.length - 4))) then some (l.take (l.length - 4)) else none
theorem open_seal (l : List Nat) : openL (sealL l) = some l := by
  have h : (sealL l).length = l.length + 4 := by simp [sealL, fourL_len]
  unfold openL
  rw [h, show l.length + 4 - 4 = l.length by omega]
  have h1 : (sealL l).take l.length = l := by unfold sealL; exact List.take_left
  have h2 : (sealL l).drop l.length = fourL (crcS l) := by unfold sealL; exact List.drop_left
  rw [h1, h2, if_pos ⟨by omega, rfl⟩]
/-- What Open tells. -/
def OpenT (l : List Nat) (W w' : World) (e : Ending) : Prop :=
  (openL l = none ∧ e = .returned (.tuple #[.slice none 0 0, .iface 37 (.int .i64 7)]) ∧ Below W.heap.size W w') ∨
  ∃ m v, openL l = some m ∧ e = .returned (.tuple #[v, .nilIface]) ∧ OwnB w' W.heap.size m v ∧ Below W.heap.size W w'
attribute [local go_sem ↓] run_slice_lhI run_slice_hI run_slice_lI
set_option maxHeartbeats 8000000 in
theorem open_calls (l : List Nat) (v : Value) (w : World) (hB : ByW w l v) (hn : l.length ≤ 140737488350000) :
    Calls Try.prog 16 #[v] w fun e w' => OpenT l w w' e := by
  have HB := Lib.hid hB
  obtain ⟨oa, cap, rfl, h1, h2⟩ := hB.val
  unfold maxLen at h2
  by_cases h4 : 4 ≤ l.length
  · obtain ⟨n, hN⟩ : ∃ n, l.length = n + 4 := ⟨l.length - 4, by omega⟩
    have eo : openL l = if l.drop n = fourL (crcS (l.take n)) then some (l.take n) else none := by
      unfold openL; rw [hN, show n + 4 - 4 = n by omega]; simp
    have hA : ByW w (l.drop n) (.slice (slA oa n cap) 4 (cap - n)) := by
      have := hB.from n (by omega)
      rwa [hN, show n + 4 - n = 4 by omega] at this
    have hT : ByW w (l.take n) (.slice (slA oa 0 cap) n cap) := hB.upto n (by omega)
    have hc : crcS (l.take n) < 2 ^ 32 := crcS_lt hT.ok
    have HQ : Hid (eqN (l.drop n) (fourL (crcS (l.take n))) = true ↔ l.drop n = fourL (crcS (l.take n))) := eqN_iff hA.ok (fourL_lt _)
    have HTL : (l.take n).length = n := by simp; omega
    have HS := fun w' h => Lib.hid (sum_calls (l.take n) (.slice (slA oa 0 cap) n cap) w' h)
    have HF := fun w' => Lib.hid (four_calls _ hc w')
    have HE := fun w' u (hu : ByW w' (l.drop n) _) hv => Lib.hid (equal_calls (l.drop n) (fourL (crcS (l.take n))) (.slice (slA oa n cap) 4 (cap - n)) u w' hu hv)
    have HC := fun w' h => Lib.hid (clone_calls (l.take n) (.slice (slA oa 0 cap) n cap) w' h (by rw [HTL]; omega))
    have A := Lib.hid hA
    have T := Lib.hid hT
    have O := Lib.hid eo
    rw [hN]
    clear eo hA hT hB HTL HB
    generalize crcS (l.take n) = c at *
    have BEL := Lib.hid (Below.refl w.heap.size w).drew
    have s1 : (n : Int) ≤ cap := by omega
    have s2 : (n : Int) ≤ (n : Int) + 4 := by omega
    have s3 : decide ((n : Int) < 0) = false := by simp
    have HO : Hid (if eqN (l.drop n) (fourL c) = true then openL l = some (l.take n) else openL l = none) := by
      show (if eqN (l.drop n) (fourL c) = true then openL l = some (l.take n) else openL l = none)
      split
      · rename_i hq; rw [O.out, if_pos (HQ.out.1 hq)]
      · rename_i hq; rw [O.out, if_neg (fun h => hq (HQ.out.2 h))]
    clear O HQ
    generalize eqN (l.drop n) (fourL c) = r at *
    go_enter Try.func16, Try.ntmps16
    go_wp2
    refine monoR_begin (R := Later) (by kernel_rfl) ?_
    refine monoR_take laterPre (i := 0) (v := ?_) rfl (by kernel_rfl) (by kernel_rfl) (by kernel_rfl) (fun _ _ _ h => h) (Or.inl ⟨by rfl, ?_⟩) ?_
    rotate_left 1
    · (intro wL hLater; go_simp; try with_reducible rfl)
    try simp only [Act.put, List.getElem_toArray, List.getElem_cons_zero, List.getElem_cons_succ, List.setIfInBounds_toArray, List.set_cons_zero, List.set_cons_succ]
    refine monoR_take laterPre (i := 1) (v := ?_) rfl (by kernel_rfl) (by kernel_rfl) (by kernel_rfl) (fun _ _ _ h => h) (Or.inl ⟨by rfl, ?_⟩) ?_
    rotate_left 1
    · (intro wL hLater; go_simp; try with_reducible rfl)
    try simp only [Act.put, List.getElem_toArray, List.getElem_cons_zero, List.getElem_cons_succ, List.setIfInBounds_toArray, List.set_cons_zero, List.set_cons_succ]
    refine monoR_take laterPre (i := 2) (v := ?_) rfl (by kernel_rfl) (by kernel_rfl) (by kernel_rfl) (fun _ _ _ h => h) (Or.inl ⟨by rfl, ?_⟩) ?_
    rotate_left 1
    · (intro wL hLater; go_simp; try with_reducible rfl)
    try simp only [Act.put, List.getElem_toArray, List.getElem_cons_zero, List.getElem_cons_succ, List.setIfInBounds_toArray, List.set_cons_zero, List.set_cons_succ]
    refine monoR_take laterPre (i := 3) (v := ?_) rfl (by kernel_rfl) (by kernel_rfl) (by kernel_rfl) (fun _ _ _ h => h) (Or.inl ⟨by rfl, ?_⟩) ?_
    rotate_left 1
    · (intro wL hLater; go_simp; try with_reducible rfl)
    try simp only [Act.put, List.getElem_toArray, List.getElem_cons_zero, List.getElem_cons_succ, List.setIfInBounds_toArray, List.set_cons_zero, List.set_cons_succ]
    refine monoR_take laterPre (i := 4) (v := ?_) rfl (by kernel_rfl) (by kernel_rfl) (by kernel_rfl) (fun _ _ _ h => h) (Or.inl ⟨by rfl, ?_⟩) ?_
    rotate_left 1
    · (intro wL hLater; go_simp; try with_reducible rfl)
    try simp only [Act.put, List.getElem_toArray, List.getElem_cons_zero, List.getElem_cons_succ, List.setIfInBounds_toArray, List.set_cons_zero, List.set_cons_succ]
    refine monoR_take laterPre (i := 5) (v := ?_) rfl (by kernel_rfl) (by kernel_rfl) (by kernel_rfl) (fun _ _ _ h => h) (Or.inl ⟨by rfl, ?_⟩) ?_
    rotate_left 1
    · (intro wL hLater; go_simp; try with_reducible rfl)
    try simp only [Act.put, List.getElem_toArray, List.getElem_cons_zero, List.getElem_cons_succ, List.setIfInBounds_toArray, List.set_cons_zero, List.set_cons_succ]
    refine monoR_take laterPre (i := 6) (v := ?_) rfl (by kernel_rfl) (by kernel_rfl) (by kernel_rfl) (fun _ _ _ h => h) (Or.inl ⟨by rfl, ?_⟩) ?_
    rotate_left 1
    · (intro wL hLater; go_simp; try with_reducible rfl)
    try simp only [Act.put, List.getElem_toArray, List.getElem_cons_zero, List.getElem_cons_succ, List.setIfInBounds_toArray, List.set_cons_zero, List.set_cons_succ]
    refine monoR_take laterPre (i := 7) (v := ?_) rfl (by kernel_rfl) (by kernel_rfl) (by kernel_rfl) (fun _ _ _ h => h) (Or.inl ⟨by rfl, ?_⟩) ?_
    rotate_left 1
    · (intro wL hLater; go_simp; try with_reducible rfl)
    try simp only [Act.put, List.getElem_toArray, List.getElem_cons_zero, List.getElem_cons_succ, List.setIfInBounds_toArray, List.set_cons_zero, List.set_cons_succ]
    refine monoR_take laterPre (i := 8) (v := ?_) rfl (by kernel_rfl) (by kernel_rfl) (by kernel_rfl) (fun _ _ _ h => h) (Or.inl ⟨by rfl, ?_⟩) ?_
    rotate_left 1
    · (intro wL hLater; go_simp; try with_reducible rfl)
    try simp only [Act.put, List.getElem_toArray, List.getElem_cons_zero, List.getElem_cons_succ, List.setIfInBounds_toArray, List.set_cons_zero, List.set_cons_succ]
    refine monoR_one (i := 9) (by kernel_rfl) rfl (fun K hK => ?_)
    try simp only [List.getElem_toArray, List.getElem_cons_zero, List.getElem_cons_succ]
    first | rw [if_pos (by rfl)] | skip
    (go_simp; go_at_call 18; (with_reducible refine (HS _ (T.out.later BEL.out)).out.mono ?_); rintro e w1 ⟨rfl, rfl⟩)
    try go_wp2_with fail
    refine hK.out _ _ (Below.refl _ _) ?_
    clear hK K
    try simp only [Act.put, List.getElem_toArray, List.getElem_cons_zero, List.getElem_cons_succ, List.setIfInBounds_toArray, List.set_cons_zero, List.set_cons_succ]
    refine monoR_one (i := 10) (by kernel_rfl) rfl (fun K hK => ?_)
    try simp only [List.getElem_toArray, List.getElem_cons_zero, List.getElem_cons_succ]
    first | rw [if_pos (by rfl)] | skip
    (go_simp; go_at_call 26; (with_reducible refine (HF _).out.mono ?_); rintro e w2 ⟨v2, rfl, h2, hb2⟩)
    try go_wp2_with fail
    refine hK.out _ _ (hb2) ?_
    clear hK K
    try simp only [Act.put, List.getElem_toArray, List.getElem_cons_zero, List.getElem_cons_succ, List.setIfInBounds_toArray, List.set_cons_zero, List.set_cons_succ]
    replace BEL := Lib.hid (BEL.out.trans (hb2.mono BEL.out.size))
    have F2 := Lib.hid (h2.by (fourL_lt _))
    clear h2 hb2
    refine monoR_one (i := 11) (by kernel_rfl) rfl (fun K hK => ?_)
    try simp only [List.getElem_toArray, List.getElem_cons_zero, List.getElem_cons_succ]
    first | rw [if_pos (by rfl)] | skip
    (go_simp; go_at_call 25; (with_reducible refine (HE _ _ (A.out.later BEL.out) F2.out).out.mono ?_); rintro e w3 ⟨rfl, rfl⟩)
    try go_wp2_with fail
    refine hK.out _ _ (Below.refl _ _) ?_
    clear hK K
    try simp only [Act.put, List.getElem_toArray, List.getElem_cons_zero, List.getElem_cons_succ, List.setIfInBounds_toArray, List.set_cons_zero, List.set_cons_succ]
    refine monoR_take laterPre (i := 12) (v := ?_) rfl (by kernel_rfl) (by kernel_rfl) (by kernel_rfl) (fun _ _ _ h => h) (Or.inl ⟨by rfl, ?_⟩) ?_
    rotate_left 1
    · (intro wL hLater; go_simp; try with_reducible rfl)
    try simp only [Act.put, List.getElem_toArray, List.getElem_cons_zero, List.getElem_cons_succ, List.setIfInBounds_toArray, List.set_cons_zero, List.set_cons_succ]
    refine monoR_take laterPre (i := 13) (v := ?_) rfl (by kernel_rfl) (by kernel_rfl) (by kernel_rfl) (fun _ _ _ h => h) (Or.inl ⟨by rfl, ?_⟩) ?_
    rotate_left 1
    · (intro wL hLater; go_simp; try with_reducible rfl)
    try simp only [Act.put, List.getElem_toArray, List.getElem_cons_zero, List.getElem_cons_succ, List.setIfInBounds_toArray, List.set_cons_zero, List.set_cons_succ]
    refine monoR_done (by kernel_rfl) ?_ _
    clear HS HF HE
    cases r
    · have HO2 := Lib.hid (show openL l = none from by have := HO.out; simpa using this)
      clear HO
      go_wp2
      go_ret2
      exact .inl ⟨HO2.out, rfl, BEL.out⟩
    · have HO2 := Lib.hid (show openL l = some (l.take n) from by have := HO.out; simpa using this)
      clear HO
      go_wp2_with (go_at_call 27; (with_reducible refine (HC _ (T.out.later BEL.out)).out.mono ?_); rintro e w4 ⟨v4, rfl, h5, hb5⟩)
      go_ret2
      exact .inr ⟨_, _, HO2.out, rfl, h5.mono BEL.out.size, BEL.out.trans (hb5.mono BEL.out.size)⟩
  · have e : openL l = none := by unfold openL; rw [if_neg (by omega)]
    have E := Lib.hid e
    clear e hB HB
    have s3 : (l.length : Int) - 4 < 0 := by omega
    have s4 : decide ((l.length : Int) - 4 < 0) = true := decide_eq_true s3
    go_enter Try.func16, Try.ntmps16
    go_wp2
    go_quiet (fail)
    go_wp2
    go_ret2
    exact .inl ⟨E.out, rfl, ⟨rfl, rfl, rfl, Nat.le_refl _, fun _ _ => rfl⟩⟩
theorem open_none {l : List Nat} {v : Value} {w : World} (hB : ByW w l v) (hn : l.length ≤ 140737488350000) (h : openL l = none) :
    Calls Try.prog 16 #[v] w fun e w' => e = .returned (.tuple #[.slice none 0 0, .iface 37 (.int .i64 7)]) ∧ Below w.heap.size w w' :=
  (open_calls l v w hB hn).mono fun e w' h' => by
    rcases h' with ⟨_, h1, h2⟩ | ⟨m, v, h1, _⟩
    · exact ⟨h1, h2⟩
    · rw [h] at h1; cases h1
theorem open_some {l m : List Nat} {v : Value} {w : World} (hB : ByW w l v) (hn : l.length ≤ 140737488350000) (h : openL l = some m) :
    Calls Try.prog 16 #[v] w fun e w' => ∃ u, e = .returned (.tuple #[u, .nilIface]) ∧ OwnB w' w.heap.size m u ∧ Below w.heap.size w w' :=
  (open_calls l v w hB hn).mono fun e w' h' => by
    rcases h' with ⟨h1, _⟩ | ⟨m', v, h1, h2, h3, h4⟩
    · rw [h] at h1; cases h1
    · rw [h] at h1; cases h1; exact ⟨v, h2, h3, h4⟩
theorem openL_ok {l m : List Nat} (h : openL l = some m) (hl : ∀ n ∈ l, n < 256) : ∀ n ∈ m, n < 256 := by
  unfold openL at h
  split at h
  · cases h
    exact fun n hn => hl n (List.mem_of_mem_take hn)
  · cases h
end Go.Proofs.Ytghnephjgffenaa
