/- What the laws of layer 20 ask: Few, Preds, the example. Walked. -/
import Derived.Test.YtechmejmlelmmaaTreC
import Derived.Test.YtechmejmlelmmaaLeft
import Derived.Test.YtechmejmlelmmaaConv
import Derived.Test.YtechmejmlelmmaaContUp
import Derived.Test.YtechmejmlelmmaaNodes
namespace Go.Proofs.Ytechmejmlelmmaa
set_option linter.unusedVariables false
set_option linter.unusedSimpArgs false
set_option maxRecDepth 100000
open Go.RowKit

/-- Trees that lie in a row. -/
abbrev LKT (w : World) (l : List Pr) (v : Value) : Prop := LT w (.node 0 ⟨#[]⟩ 0 0 0 l) v
def few20 (l : List Pr) : Int := if decide (l.length ≤ 12) && l.all (fun t => decide (t.size ≤ 60)) then 1 else 0
theorem few20_yes {l : List Pr} (h : few20 l ≠ 0) : few20 l = 1 ∧ l.length ≤ 12 ∧ ∀ t ∈ l, t.size ≤ 60 := by
  unfold few20 at *
  split at h
  · rename_i h1
    rw [if_pos h1]
    simp only [Bool.and_eq_true, decide_eq_true_eq, List.all_eq_true] at h1
    exact ⟨rfl, h1⟩
  · exact absurd rfl h
def Few20Rel (l : List Pr) (len : Nat) (w : World) (iv : Value) (wr : World) : Prop :=
  ∃ k : Nat, k ≤ len ∧ iv = .int .i64 k ∧ Hid (∀ j x, j < k → l[j]? = some x → x.size ≤ 60) ∧ Hid (Below w.heap.size w wr)

set_option maxRecDepth 100000 in
set_option maxHeartbeats 4000000 in
theorem few20_calls (l : List Pr) (v : Value) (w : World) (h : LKT w l v) :
    Calls Try.prog 6 #[v] w fun e w' => e = .returned (.int .i64 (few20 l)) ∧ Below w.heap.size w w' := by
  obtain ⟨oa, cap, b0, o, V, rfl, -, hl, hc, hn0, hcell, hrec⟩ := lies_slice h
  simp only [Pr.kids_node] at *
  unfold maxLen at hc
  have HC := Lib.hid hcell
  have HR := Lib.hid hrec
  have HN0 := Lib.hid hn0
  clear h hcell hrec hn0
  have HE := Lib.hid (show few20 l = if (decide (l.length ≤ 12) && l.all fun x => decide (x.size ≤ 60)) = true then 1 else 0 from rfl)
  generalize few20 l = res at *
  generalize hn : l.length = len at *
  have HN := Lib.hid hn
  clear hn
  by_cases h100 : 12 < len
  · have E := Lib.hid (show res = 0 by rw [HE.out, if_neg (by simp; omega)])
    go_enter Try.func6, Try.ntmps6
    go_wp2_with fail
    go_ret
    exact ⟨ret_int E.out.symm, Below.refl _ _⟩
  go_enter Try.func6, Try.ntmps6
  go_wp2_with fail
  go_loopw [3] (fun iv wr => Few20Rel l len w iv wr) (fun iv _ => len - (intOf iv).toNat)
  case atStart => exact ⟨0, Nat.zero_le _, rfl, Lib.hid (fun j x hj => absurd hj (by omega)), Lib.hid (Below.refl _ _)⟩
  case round =>
    obtain ⟨k, hk, rfl, HA, BL⟩ := hrel
    by_cases hlt : k < len
    · obtain ⟨x, hx⟩ : ∃ x, l[k]? = some x := ⟨_, List.getElem?_eq_getElem (by rw [HN.out]; exact hlt)⟩
      obtain ⟨rfl, hb0⟩ := HN0.out (by omega)
      obtain ⟨c0, c1, c2, c3, c4, c5⟩ := tc_cells (w := wr) (fun j u hu => (BL.out.cell (p := ⟨b0, o + k * 6 + j, none⟩) hb0).trans (HC.out k x hx j u hu))
      have CM := Lib.hid (small_calls x (V k) wr ((HR.out k x hx).later BL.out (Nat.le_refl _)))
      have q0 : (0 : Int) ≤ (k : Int) := by omega
      have q1 : (k : Int) < (len : Int) := by omega
      have q2 : (k : Int) + 1 ≤ 9223372036854775807 := by omega
      have HF := Lib.hid hx
      clear hx
      by_cases hs : x.size ≤ 60
      · have HA2 := Lib.hid (show ∀ j y, j < k + 1 → l[j]? = some y → y.size ≤ 60 from fun j y hj hy => by
          by_cases e : j = k
          · subst e; rw [HF.out] at hy; cases hy; exact hs
          · exact HA.out j y (by omega) hy)
        rw [if_pos hs] at CM
        clear hs
        go_wp2_with (go_at_call 11; refine CM.out.mono ?_; rintro e w2 ⟨rfl, hb⟩; replace BL := Lib.hid (BL.out.trans (hb.mono BL.out.size)); clear hb)
        go_roundw
        case rel => exact ⟨k + 1, by omega, by go_num, HA2, BL⟩
        case measure => simp [intOf]; omega
      · have E := Lib.hid (show res = 0 by
          rw [HE.out, if_neg]
          intro h
          simp only [Bool.and_eq_true, List.all_eq_true, decide_eq_true_eq] at h
          exact hs (h.2 x (List.mem_of_getElem? HF.out)))
        rw [if_neg hs] at CM
        clear hs
        go_wp2_with (go_at_call 11; refine CM.out.mono ?_; rintro e w2 ⟨rfl, hb⟩; replace BL := Lib.hid (BL.out.trans (hb.mono BL.out.size)); clear hb)
        go_ret
        exact ⟨ret_int E.out.symm, BL.out⟩
    · have E := Lib.hid (show res = 1 by
        rw [HE.out, if_pos]
        simp only [Bool.and_eq_true, List.all_eq_true, decide_eq_true_eq]
        refine ⟨by omega, fun x hx => ?_⟩
        obtain ⟨j, hj⟩ := List.mem_iff_getElem?.1 hx
        exact HA.out j x (by have := (List.getElem?_eq_some_iff.1 hj).1; have := HN.out; omega) hj)
      go_wp2_with fail
      go_ret
      exact ⟨ret_int E.out.symm, BL.out⟩

/-! ### Preds -/
def PredsRel (l : List Pr) (len : Nat) (w : World) (i sl : Value) (wr : World) : Prop :=
  ∃ (k : Nat) (xs : List Value) (V : Nat → Value), k ≤ len ∧ i = .int .i64 k ∧ Hid (wr.ownsRow w.heap.size 37 5 sl k xs) ∧ Hid (Laid l k xs V) ∧
    Hid (∀ i p, i < k → l[i]? = some p → Lies 5 pc (fun b => w.heap.size ≤ b ∧ b < wr.heap.size ∧ some b ≠ sl.ownBlock) wr p (V i)) ∧ Hid (Below w.heap.size w wr)
theorem preds_step {l : List Pr} {len : Nat} {w wr w2 w3 : World} {k g cap' : Nat} {sl v2 : Value} {xs : List Value} {V : Nat → Value} {q : Pr} (hk : k < len) (hq : l[k]? = some q)
    (hown : wr.ownsRow w.heap.size 37 5 sl k xs) (hlaid : Laid l k xs V)
    (hlies : ∀ i p, i < k → l[i]? = some p → Lies 5 pc (fun b => w.heap.size ≤ b ∧ b < wr.heap.size ∧ some b ≠ sl.ownBlock) wr p (V i)) (hb : Below w.heap.size w wr)
    (hl2 : Lies 5 pc (fun b => wr.heap.size ≤ b ∧ b < w2.heap.size) w2 q v2) (hb2 : Below wr.heap.size wr w2)
    (hown3 : w3.ownsRow w.heap.size 37 5 (.slice (some ⟨g, 0, none⟩) (k + 1) cap') (k + 1) (xs ++ pc q v2))
    (hgrow : (w2.alloc (.cells #[.int .i64 q.op, .string q.text, .int .i64 q.n, .complex .f64 q.x q.y, v2] 37)).grownBy w3 sl.ownBlock) (hat : sl.ownBlock = some g ∨ g = w2.heap.size + 1) :
    PredsRel l len w (.int .i64 (k + 1 : Nat)) (.slice (some ⟨g, 0, none⟩) (k + 1) cap') w3 := by
  have s2 : wr.heap.size ≤ w2.heap.size := hb2.size
  have s3 : w2.heap.size + 1 ≤ w3.heap.size := by have := hgrow.size; simpa using this
  have zw := hb.size
  have b1 : Below w.heap.size w (w2.alloc (.cells #[.int .i64 q.op, .string q.text, .int .i64 q.n, .complex .f64 q.x q.y, v2] 37)) := (hb.trans (hb2.mono zw)).alloc (by omega) _
  have b2 : Below w.heap.size w w3 := b1.grown hgrow (by simp; omega) (fun j hj => by have := hown.lt j hj; omega)
  have hlt3 : ∀ j, sl.ownBlock = some j → j < wr.heap.size := fun j hj => (hown.lt j hj).2
  have hg : ∀ b, b < w2.heap.size → some b ≠ sl.ownBlock → b ≠ g := by
    intro b h1 h2 e
    rcases hat with h | h
    · exact h2 (by rw [e, h])
    · omega
  refine ⟨k + 1, xs ++ pc q v2, fun i => if i = k then v2 else V i, hk, rfl, Lib.hid hown3, Lib.hid (laid_step hown.1 hlaid hq), Lib.hid ?_, Lib.hid b2⟩
  intro i p hi hp
  by_cases e : i = k
  · subst e
    rw [hq] at hp; cases hp
    simp only [if_true]
    refine hl2.mono (fun b o h => ?_) (fun b h => ?_)
    · have h1 : some b ≠ sl.ownBlock := fun e => by have := hlt3 b e.symm; have := h.1; omega
      rw [hgrow.cell_far _ (by have := h.2; simp; omega) h1]
      exact World.cell?_of_block (Below.heap_alloc _ _ _ h.2)
    · have h1 : some b ≠ sl.ownBlock := fun e => by have := hlt3 b e.symm; have := h.1; omega
      refine ⟨by have := h.1; omega, by have := h.2; omega, ?_⟩
      simp only [Value.ownBlock, ne_eq, Option.some.injEq]
      exact hg b h.2 h1
  · simp only [if_neg e]
    refine (hlies i p (by omega) hp).mono (fun b o h => ?_) (fun b h => ?_)
    · rw [hgrow.cell_far _ (by simp; omega) h.2.2]
      rw [World.cell?_of_block (Below.heap_alloc _ _ _ (by simp; omega))]
      exact hb2.cell (p := ⟨b, o, none⟩) h.2.1
    · refine ⟨h.1, by omega, ?_⟩
      simp only [Value.ownBlock, ne_eq, Option.some.injEq]
      exact hg b (by omega) h.2.2
theorem preds_end {l : List Pr} {B : Nat} {wr : World} {sl : Value} {xs : List Value} {V : Nat → Value} {k : Nat} (hk : l.length = k)
    (hown : wr.ownsRow B 37 5 sl k xs) (hlaid : Laid l k xs V)
    (hlies : ∀ i p, i < k → l[i]? = some p → Lies 5 pc (fun b => B ≤ b ∧ b < wr.heap.size ∧ some b ≠ sl.ownBlock) wr p (V i)) : LK wr l sl := by
  subst hk
  obtain ⟨oa', cap2, g, e, h1, h2, hg⟩ := row_slice hown
  subst e
  refine .mk 0 ⟨#[]⟩ 0 0 0 l oa' cap2 g 0 V (by decide) h1 h2 (fun h => ⟨(hg h).1, (hg h).2.2⟩) (fun i p hp j u hu => ?_) fun i p hp => ?_
  · have hi := some_pos hp
    obtain ⟨rfl, hb, _⟩ := hg (by omega)
    have h3 := hlaid i p hi hp j u hu
    rw [Nat.zero_add, hown.cellAt _ (by have := (List.getElem?_eq_some_iff.1 h3).1; rw [hown.1] at this; exact this)]
    exact h3
  · exact (hlies i p (some_pos hp) hp).mono (fun b o h => rfl) fun b h => h.2.1

set_option maxRecDepth 100000 in
set_option maxHeartbeats 4000000 in
theorem preds_calls (l : List Pr) (v : Value) (w : World) (h : LKT w l v) (hs : ∀ t ∈ l, t.size ≤ 60) (hlen : l.length ≤ 12) :
    Calls Try.prog 7 #[v] w fun e w' => ∃ v', e = .returned v' ∧ LK w' l v' ∧ Below w.heap.size w w' := by
  obtain ⟨oa, cap, b0, o, V, rfl, -, hl, hc, hn0, hcell, hrec⟩ := lies_slice h
  simp only [Pr.kids_node] at *
  unfold maxLen at hc
  have HC := Lib.hid hcell
  have HR := Lib.hid hrec
  have HN0 := Lib.hid hn0
  have HS := Lib.hid hs
  clear h hcell hrec hn0 hs
  generalize hn : l.length = len at *
  have HN := Lib.hid hn
  clear hn
  go_enter Try.func7, Try.ntmps7
  go_wp2_with fail
  go_loopw [4, 3] (fun iv sv wr => PredsRel l len w iv sv wr) (fun iv _ _ => len - (intOf iv).toNat)
  case atStart => exact ⟨0, [], fun _ => .nilFunc, Nat.zero_le _, rfl, Lib.hid (World.ownsRow_nil _ _ _ _), Lib.hid (fun i p h => absurd h (Nat.not_lt_zero _)), Lib.hid (fun i p h => absurd h (Nat.not_lt_zero _)), Lib.hid (Below.refl _ _)⟩
  case round =>
    obtain ⟨k, xs, V', hk, rfl, HO, HLA, HLI, BL⟩ := hrel
    by_cases hlt : k < len
    · obtain ⟨q, hq⟩ : ∃ q, l[k]? = some q := ⟨_, List.getElem?_eq_getElem (by rw [HN.out]; exact hlt)⟩
      obtain ⟨rfl, hb0⟩ := HN0.out (by omega)
      obtain ⟨c0, c1, c2, c3, c4, c5⟩ := tc_cells (w := wr) (fun j u hu => (BL.out.cell (p := ⟨b0, o + k * 6 + j, none⟩) hb0).trans (HC.out k q hq j u hu))
      have CC := Lib.hid (conv_calls q (V k) wr ((HR.out k q hq).later BL.out (Nat.le_refl _)) (HS.out q (List.mem_of_getElem? hq)))
      have q0 : (0 : Int) ≤ (k : Int) := by omega
      have q1 : (k : Int) < (len : Int) := by omega
      have q2 : (k : Int) + 1 ≤ 9223372036854775807 := by omega
      have HQ := Lib.hid hq
      have zw := BL.out.size
      obtain ⟨i0, hi, hz0, hz1, hz2⟩ := info_parts info_pred
      clear hq
      go_wp2_with (first | (go_at_call 12; refine CC.out.mono ?_; rintro e w2 ⟨v2, rfl, hl2, hb2⟩; have HL2 := Lib.hid hl2; have HB2 := Lib.hid hb2; have zw2 := hb2.size; clear hl2 hb2) | (at_builtin; refine wpList_append_two _ (by rfl) _ _ _ (by rfl) w.heap.size 37 i0 _ 5 72 Try.underlying25 hi hz0 hz1 hz2 rfl (by omega) u3 k xs (by rfl) ((ownsRow_below HO.out HB2.out).alloc _) ⟨w2.heap.size, 0, none⟩ 1 1 (pc q v2) (by rfl) (by rfl) (World.news_of_block (cs := #[.int .i64 q.op, .string q.text, .int .i64 q.n, .complex .f64 q.x q.y, v2]) (t := 37) (fr := (0, 0)) (heap_alloc_new w2 _)) (pc_one (lies_one HL2.out)) (by omega) (by unfold maxLen; omega) (by omega) (by simp; omega) (w2.heap.size + 1) (by simp) ?_; intro g' cap' w3 hown3 hgrow3 hat3 hlt3; have HST := Lib.hid (preds_step hlt HQ.out HO.out HLA.out HLI.out BL.out HL2.out HB2.out hown3 hgrow3 (by rcases hat3 with h | h; exact .inl h; exact .inr h.1)); clear hown3 hgrow3 hat3 hlt3))
      go_roundw
      case rel => exact HST.out
      case measure => simp [intOf]; omega
    · have e : k = len := by omega
      subst e
      have HE := Lib.hid (preds_end HN.out HO.out HLA.out HLI.out)
      clear HO HLA HLI
      go_wp2_with fail
      go_ret
      exact ⟨_, rfl, HE.out, BL.out⟩

/-! ### The example -/
abbrev star0 : Pr := .node 1 ⟨#[]⟩ 0 0 0 []
abbrev lsE : List Pr := [star0, less5, less3]
theorem lsE_root : trRoot lsE = some 0 := by
  unfold trRoot
  rw [if_pos ⟨by decide, by decide +kernel⟩]
  rfl
theorem lsE_in0 : Pr.inB less5 star0 = true := by
  unfold Pr.inB
  rw [show less5.mayB = true by decide +kernel, show star0.mayB = true by decide +kernel, Pr.seenB_eq]
  simp [Pr.op]
theorem lsE_at (k : Nat) (h : k < 3) : trSf lsE 0 k = (k, k) := by
  have h21 : inL lsE 2 1 = true := up_in1
  have : k = 0 ∨ k = 1 ∨ k = 2 := by omega
  rcases this with rfl | rfl | rfl
  · rfl
  · rfl
  · show trNode _ (trBest 0 (trS 0 (inL lsE) 2) (inL lsE 2) 2) = _
    have : trBest 0 (trS 0 (inL lsE) 2) (inL lsE 2) 2 = 1 := by
      unfold trBest
      rw [if_pos ⟨by decide, h21, by decide⟩]
    rw [this]; rfl
theorem lsE_lies (w : World) : LK (w.alloc (.cells #[.int .i64 1, .string ⟨#[]⟩, .int .i64 0, .complex .f64 0 0, .slice none 0 0, .int .i64 5, .string ⟨#[]⟩, .int .i64 5, .complex .f64 0 0, .slice none 0 0, .int .i64 5, .string ⟨#[]⟩, .int .i64 3, .complex .f64 0 0, .slice none 0 0] 37)) lsE (.slice (some ⟨w.heap.size, 0, none⟩) 3 3) := by
  have hc := (Own.new w #[.int .i64 1, .string ⟨#[]⟩, .int .i64 0, .complex .f64 0 0, .slice none 0 0, .int .i64 5, .string ⟨#[]⟩, .int .i64 5, .complex .f64 0 0, .slice none 0 0, .int .i64 5, .string ⟨#[]⟩, .int .i64 3, .complex .f64 0 0, .slice none 0 0] 37)
  refine .mk 0 ⟨#[]⟩ 0 0 0 lsE (some ⟨w.heap.size, 0, none⟩) 3 w.heap.size 0 (fun _ => .slice none 0 0) (by decide) (by decide) (by decide) (fun _ => ⟨rfl, hc.lt⟩) (fun i p hp j u hu => ?_) (fun i p hp => ?_)
  · rw [hc.cell]
    have hj : j < 5 := (List.getElem?_eq_some_iff.1 hu).1
    have hi : i < 3 := (List.getElem?_eq_some_iff.1 hp).1
    have hj' : j = 0 ∨ j = 1 ∨ j = 2 ∨ j = 3 ∨ j = 4 := by omega
    have hi' : i = 0 ∨ i = 1 ∨ i = 2 := by omega
    rcases hi' with rfl | rfl | rfl <;> (simp at hp; subst hp) <;> rcases hj' with rfl | rfl | rfl | rfl | rfl <;> (simp [pc, Pr.op, Pr.text, Pr.n, Pr.x, Pr.y] at hu ⊢; exact hu)
  · have hi : i < 3 := (List.getElem?_eq_some_iff.1 hp).1
    have hi' : i = 0 ∨ i = 1 ∨ i = 2 := by omega
    rcases hi' with rfl | rfl | rfl <;> (simp at hp; subst hp) <;> exact lies_leaf _ _ _ _ _ (by decide)

set_option maxRecDepth 100000 in
set_option maxHeartbeats 4000000 in
theorem up20_calls (w : World) : Calls Try.prog 5 #[] w fun e w' => e = .returned (.bool true) ∧ Below w.heap.size w w' := by
  have C := Lib.hid (treePlace_calls lsE (some ⟨w.heap.size, 0, none⟩) 3 (w.alloc (.cells #[.int .i64 1, .string ⟨#[]⟩, .int .i64 0, .complex .f64 0 0, .slice none 0 0, .int .i64 5, .string ⟨#[]⟩, .int .i64 5, .complex .f64 0 0, .slice none 0 0, .int .i64 5, .string ⟨#[]⟩, .int .i64 3, .complex .f64 0 0, .slice none 0 0] 37)) (by intro k hk; simp at hk; rcases hk with rfl | rfl | rfl <;> decide) (lsE_lies w))
  go_enter Try.func5, Try.ntmps5
  go_wp2_with fail
  refine C.out.mono ?_
  rintro e w1 (⟨h, _⟩ | ⟨r, b, hr, rfl, hN, hb⟩)
  · rw [lsE_root] at h; cases h
  · rw [lsE_root] at hr; cases hr
    have zb := hN.lt
    have a0 := hN.c0 0 (by decide)
    have a1 := hN.c1 0 (by decide)
    have b0 := hN.c0 1 (by decide)
    have b1 := hN.c1 1 (by decide)
    have d0 := hN.c0 2 (by decide)
    have d1 := hN.c1 2 (by decide)
    rw [lsE_at 0 (by decide)] at a0 a1
    rw [lsE_at 1 (by decide)] at b0 b1
    rw [lsE_at 2 (by decide)] at d0 d1
    have HB := Lib.hid (below_new hb)
    clear hN hb C
    simp only [Nat.zero_mul, Nat.one_mul, Nat.zero_add, List.length_cons, List.length_nil] at a0 a1 b0 b1 d0 d1 ⊢
    go_wp2_with fail
    go_ret
    exact ⟨rfl, HB.out⟩
end Go.Proofs.Ytechmejmlelmmaa
