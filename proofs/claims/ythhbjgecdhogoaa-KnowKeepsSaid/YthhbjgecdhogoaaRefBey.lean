/- What is known: the document's beyond, walked. -/
import Derived.Test.YthhbjgecdhogoaaRefKnow1
import Derived.Test.YthhbjgecdhogoaaRefVec2
namespace Go.Proofs.Ythhbjgecdhogoaa
set_option linter.unusedVariables false
set_option linter.unusedSimpArgs false
open Go.RowKit

structure BySt (w : World) (X Z V : Array Value) (wr : World) : Prop where
  o1 : Own wr w.heap.size X 26
  o2 : Own wr (w.heap.size + 1) Z 23
  o3 : Own wr (w.heap.size + 1 + 1) V 23
  bel : Below w.heap.size w wr
theorem BySt.later {w wr w' : World} {X Z V : Array Value} (h : BySt w X Z V wr) (hb : Below wr.heap.size wr w') : BySt w X Z V w' :=
  ⟨h.o1.later hb, h.o2.later hb, h.o3.later hb, h.bel.trans (hb.mono h.bel.size)⟩
theorem BySt.put8 {w wr : World} {X Z : Array Value} {z0 z1 z2 z3 z4 z5 z6 z7 : Value} (h : BySt w X Z #[z0, z1, z2, z3, z4, z5, z6, z7] wr) (c0 c1 c2 c3 c4 c5 c6 c7 : Value) : BySt w X Z #[c0, c1, c2, c3, c4, c5, c6, c7] (st8 wr (w.heap.size + 1 + 1) c0 c1 c2 c3 c4 c5 c6 c7) := by
  have hf : ∀ {b : Nat} {c : Array Value} {t : TypeId}, Own wr b c t → b ≠ w.heap.size + 1 + 1 → Own (st8 wr (w.heap.size + 1 + 1) c0 c1 c2 c3 c4 c5 c6 c7) b c t := by
    intro b c t ho hb
    unfold st8
    exact ((((((((ho.setFar _ _ hb).setFar _ _ hb).setFar _ _ hb).setFar _ _ hb).setFar _ _ hb).setFar _ _ hb).setFar _ _ hb).setFar _ _ hb)
  exact ⟨hf h.o1 (by omega), hf h.o2 (by omega), st8_own h.o3 _ _ _ _ _ _ _ _, st8_below h.bel (by omega) _ _ _ _ _ _ _ _⟩
theorem BySt.put1 {w wr : World} {X Z : Array Value} {V : Nat → Int} (h : BySt w X Z (arr8 V) wr) {k : Nat} (hk : k < 8) (v : Int) : BySt w X Z (arr8 (fun j => if j = k then v else V j)) (wr.setCell ⟨w.heap.size + 1 + 1, k, none⟩ (.int .i64 v)) := by
  refine ⟨h.o1.setFar _ _ (by show w.heap.size ≠ w.heap.size + 1 + 1; omega), h.o2.setFar _ _ (by show w.heap.size + 1 ≠ w.heap.size + 1 + 1; omega), ?_, h.bel.setCell (by show w.heap.size ≤ w.heap.size + 1 + 1; omega) _⟩
  rw [← arr_set V hk v]
  exact h.o3.set k _

def mixV (B R : Nat → Int) (k : Nat) (j : Nat) : Int := if j < k then B j else R j
theorem mix_zero (B R : Nat → Int) : arr8 R = arr8 (mixV B R 0) := arr_congr fun j _ => by unfold mixV; rw [if_neg (by omega)]
theorem mix_whole (B R : Nat → Int) : arr8 (mixV B R 8) = arr8 B := arr_congr fun j h => by unfold mixV; rw [if_pos h]
theorem mix_put (B R : Nat → Int) {k : Nat} {v : Int} (hv : v = B k) : arr8 (fun j => if j = k then v else mixV B R k j) = arr8 (mixV B R (k + 1)) := arr_congr fun j _ => by
  unfold mixV
  by_cases e : j = k
  · subst e; rw [if_pos rfl, if_pos (by omega)]; exact hv
  · rw [if_neg e]
    by_cases h : j < k
    · rw [if_pos h, if_pos (by omega)]
    · rw [if_neg h, if_neg (by omega)]
theorem mix_skip (B R : Nat → Int) {k : Nat} (hv : R k = B k) : arr8 (mixV B R k) = arr8 (mixV B R (k + 1)) := arr_congr fun j _ => by
  unfold mixV
  by_cases e : j = k
  · subst e; rw [if_neg (by omega), if_pos (by omega)]; exact hv
  · by_cases h : j < k
    · rw [if_pos h, if_pos (by omega)]
    · rw [if_neg h, if_neg (by omega)]
theorem raw_take {l : List Fr} {k : Nat} {f : Fr} {id : ByteArray} (h : l[k]? = some f) : rawF (l.take (k + 1)) id = rawStep id (rawF (l.take k) id) f := by
  unfold rawF; rw [takeT h, List.foldl_append]; rfl
def ByRel1 (l : List Fr) (id : ByteArray) (len : Nat) (X : Array Value) (w : World) (iv : Value) (wr : World) : Prop :=
  ∃ k : Nat, k ≤ len ∧ iv = .int .i64 k ∧ Hid (BySt w X (arr8 zeroV) (arr8 (rawF (l.take k) id)) wr)
def ByRel2 (B R : Nat → Int) (X : Array Value) (w : World) (iv : Value) (wr : World) : Prop :=
  ∃ k : Nat, k ≤ 8 ∧ iv = .int .i64 k ∧ Hid (BySt w X (arr8 zeroV) (arr8 (mixV B R k)) wr)
theorem kn_star (A : Nat → Int) (v : Value) {k : Nat} (h : k < 8) : (knA A v)[k]? = some (.int .i64 (A k)) := by
  match k, h with
  | 0, _ | 1, _ | 2, _ | 3, _ | 4, _ | 5, _ | 6, _ | 7, _ => rfl

set_option maxRecDepth 100000 in
set_option maxHeartbeats 4000000 in
theorem beyond_calls (K : Kn) (id : ByteArray) (v : Value) (w : World) (hR : FrW w K.l v) :
    Calls Try.prog 28 #[knV K.star v, .string id] w fun e w' => e = .returned (vecV (beyB K id)) ∧ Below w.heap.size w w' := by
  obtain ⟨A, l⟩ := K
  obtain ⟨U, oa, cap, b, o, rfl, hr⟩ := hR
  simp only at hr ⊢
  have HR := Lib.hid hr
  have hcap := hr.len
  have hmax := hr.max
  unfold maxLen at hmax
  clear hr
  generalize hn : l.length = len at *
  have HN := Lib.hid hn
  clear hn
  have HBE := Lib.hid (show ∀ j, j < 8 → beyB ⟨A, l⟩ id j = if rawF l id j ≤ A j then 0 else rawF l id j from fun j hj => by unfold beyB; rw [if_pos hj])
  generalize beyB ⟨A, l⟩ id = B at *
  have I0 : BySt w (knA A (.slice oa len cap)) (arr8 zeroV) (arr8 (rawF (l.take 0) id)) (((w.alloc (.cells (knA A (.slice oa len cap)) 26)).alloc (.cells (arr8 zeroV) 23)).alloc (.cells (arr8 zeroV) 23)) :=
    ⟨((Own.new w _ _).alloc _).alloc _, (Own.newAt _ _ _ (by simp)).alloc _, Own.newAt _ _ _ (by simp), (((Below.refl _ _).alloc (Nat.le_refl _) _).alloc (by simp) _).alloc (by simp; omega) _⟩
  have HI0 := Lib.hid I0
  clear I0
  go_enter Try.func28, Try.ntmps28
  go_wp2_with fail
  go_loopw [6] (fun iv wr => ByRel1 l id len (knA A (.slice oa len cap)) w iv wr) (fun iv _ => len - (intOf iv).toNat)
  case atStart => exact ⟨0, Nat.zero_le _, rfl, HI0⟩
  case round =>
    clear HI0
    obtain ⟨k, hk, rfl, HP⟩ := hrel
    have l1 := HP.out.o1.cell
    have z1 := HP.out.o1.lt
    by_cases hlt : k < len
    · obtain ⟨f, hf⟩ : ∃ f, l[k]? = some f := ⟨_, List.getElem?_eq_getElem (by rw [HN.out]; exact hlt)⟩
      obtain ⟨rfl, hb0⟩ := HR.out.at0 (by rw [HN.out]; omega)
      obtain ⟨c0, c1, c2, c3, c4, c5, c6, c7, c8⟩ := fc_cells (w := wr) (fun j z hz => (HP.out.bel.cell (p := ⟨b, o + k * 9 + j, none⟩) hb0).trans (HR.out.cell k f hf j z hz))
      have htx := (HR.out.ids k f hf).later HP.out.bel (Nat.le_refl _)
      obtain ⟨ou, cu, hu⟩ := htx.val
      rw [hu] at c0 htx
      have C := Lib.hid (among_calls f.ids id _ wr htx)
      have zb := Nat.lt_of_lt_of_le hb0 HP.out.bel.size
      have HF := Lib.hid (raw_take (id := id) hf)
      have l3 := HP.out.o3.cell
      have z3 := HP.out.o3.lt
      have k0 : (0 : Int) ≤ (k : Int) := by omega
      have k1 : (k : Int) < (len : Int) := by omega
      clear htx hu hf
      cases ham : amongB f.ids id
      · rw [ham] at C
        have HS := Lib.hid (show rawF (l.take (k + 1)) id = rawF (l.take k) id by rw [HF.out, rawStep, if_neg (by rw [ham]; simp)])
        go_wp2_with (go_at_call 37; refine C.out.mono ?_; rintro e w2 ⟨rfl, rfl⟩)
        go_roundw
        case rel => exact ⟨k + 1, by omega, by go_num, by unfold Hid; rw [HS.out]; exact HP.out⟩
        case measure => simp [intOf]; omega
      · rw [ham] at C
        have HS := Lib.hid (show rawF (l.take (k + 1)) id = maxV (rawF (l.take k) id) f.v by rw [HF.out, rawStep, if_pos ham])
        have M := Lib.hid (refMax_calls (rawF (l.take k) id) f.v wr.drew)
        clear HF ham
        go_wp2_with (go_at_call 37; refine C.out.mono ?_; rintro e w2 ⟨rfl, rfl⟩)
        refine region_still_tail 7 (by kernel_rfl) (by kernel_rfl) ?_
        simp only [List.take_succ_cons, List.take_zero, List.drop_succ_cons, List.drop_zero]
        repeat still_step
        refine wpStill_nil ?_
        clear c0 c1 c2 c3 c4 c5 c6 c7 c8 l1 l3
        go_wp2_with fail
        refine M.out.mono ?_
        rintro e w2 ⟨rfl, hb2⟩
        have hb3 : Below wr.heap.size wr w2 := (Below.refl wr.heap.size wr).drew.trans hb2
        have HP2 := Lib.hid (HP.out.later hb3)
        clear hb2 hb3 HP
        have l3 := HP2.out.o3.cell
        have f3 := HP2.out.o3.free
        have z3 := HP2.out.o3.lt
        have HP3 := Lib.hid (HP2.out.put8 (.int .i64 (maxV (rawF (l.take k) id) f.v 0)) (.int .i64 (maxV (rawF (l.take k) id) f.v 1)) (.int .i64 (maxV (rawF (l.take k) id) f.v 2)) (.int .i64 (maxV (rawF (l.take k) id) f.v 3)) (.int .i64 (maxV (rawF (l.take k) id) f.v 4)) (.int .i64 (maxV (rawF (l.take k) id) f.v 5)) (.int .i64 (maxV (rawF (l.take k) id) f.v 6)) (.int .i64 (maxV (rawF (l.take k) id) f.v 7)))
        rw [← HS.out] at HP3
        go_wp2_with fail
        clear l3 f3 z3
        go_roundw
        case rel => exact ⟨k + 1, by omega, by go_num, by rw [HS.out] at HP3 ⊢; exact HP3⟩
        case measure => simp [intOf]; omega
    · have e : len = k := by omega
      subst e
      have h1 := HP.out
      rw [show l.take len = l from List.take_of_length_le (by rw [HN.out]; omega)] at h1
      rw [mix_zero B (rawF l id)] at h1
      have HP := Lib.hid h1
      have HPx := HP
      clear h1
      go_wp2_with fail
      clear l1 z1
      go_loopw [7] (fun iv wr => ByRel2 B (rawF l id) (knA A (.slice oa len cap)) w iv wr) (fun iv _ => 8 - (intOf iv).toNat)
      case atStart => exact ⟨0, by omega, rfl, HPx⟩
      case round =>
        clear HP HPx
        obtain ⟨j, hj, rfl, HP⟩ := hrel
        by_cases hjt : j < 8
        · have LA := fun dd os => (HP.out.o1.has.regrown dd os j).trans (kn_star A _ hjt)
          have LB := fun dd os => (HP.out.o3.has.regrown dd os j).trans (arr_get (mixV B (rawF l id) j) hjt)
          have zA := HP.out.o1.lt
          have zB := HP.out.o3.lt
          have k0 : (0 : Int) ≤ (j : Int) := by omega
          have k1 : (j : Int) < 8 := by omega
          have hm : mixV B (rawF l id) j j = rawF l id j := by unfold mixV; rw [if_neg (by omega)]
          rw [hm] at LB
          by_cases h : rawF l id j ≤ A j
          · have g : decide (rawF l id j ≤ A j) = true := decide_eq_true h
            have HV := Lib.hid (show (0 : Int) = B j by rw [HBE.out j hjt, if_pos h])
            go_wp2_with fail
            refine wp_region_quiet_below (by kernel_rfl) (by kernel_rfl) ?_
            repeat (first | go_big_quiet_step (fail) | quiet_step (fail))
            refine wpQuiet_nil ?_
            intro w7 hw'
            have hb' := Lib.hid (regrown_below hw')
            clear hw'
            clear LA LB
            have HP7 := Lib.hid (HP.out.later hb'.out)
            have HP8 := HP7.out.put1 hjt 0
            rw [mix_put _ _ HV.out] at HP8
            have HP9 := Lib.hid HP8
            clear HP8
            have c7 := (HP7.out.o3.cell j).trans (arr_get (mixV B (rawF l id) j) hjt)
            have f7 := HP7.out.o3.free j
            have z7 := HP7.out.o3.lt
            go_wp2_with fail
            go_roundw
            case rel => exact ⟨j + 1, by omega, by go_num, HP9⟩
            case measure => simp [intOf]; omega
          · have g : decide (rawF l id j ≤ A j) = false := decide_eq_false h
            have HV := Lib.hid (show rawF l id j = B j by rw [HBE.out j hjt, if_neg h])
            go_wp2_with fail
            refine wp_region_quiet_below (by kernel_rfl) (by kernel_rfl) ?_
            repeat (first | go_big_quiet_step (fail) | quiet_step (fail))
            refine wpQuiet_nil ?_
            intro w7 hw'
            have hb' := Lib.hid (regrown_below hw')
            clear hw'
            clear LA LB
            have HP7 := HP.out.later hb'.out
            rw [mix_skip _ _ HV.out] at HP7
            have HP9 := Lib.hid HP7
            clear HP7
            go_wp2_with fail
            go_roundw
            case rel => exact ⟨j + 1, by omega, by go_num, HP9⟩
            case measure => simp [intOf]; omega
        · have e : j = 8 := by omega
          subst e
          have h1 := HP.out
          rw [mix_whole] at h1
          have HP := Lib.hid h1
          clear h1
          have l2 := HP.out.o2.cell
          have f2 := HP.out.o2.free
          have z2 := HP.out.o2.lt
          have l3 := HP.out.o3.cell
          have z3 := HP.out.o3.lt
          go_wp2_with fail
          have key := And.intro (st8_own HP.out.o2 (.int .i64 (B 0)) (.int .i64 (B 1)) (.int .i64 (B 2)) (.int .i64 (B 3)) (.int .i64 (B 4)) (.int .i64 (B 5)) (.int .i64 (B 6)) (.int .i64 (B 7))) (st8_below (b := w.heap.size + 1) HP.out.bel (by omega) (.int .i64 (B 0)) (.int .i64 (B 1)) (.int .i64 (B 2)) (.int .i64 (B 3)) (.int .i64 (B 4)) (.int .i64 (B 5)) (.int .i64 (B 6)) (.int .i64 (B 7)))
          clear l2 f2 z2 l3 z3
          unfold st8 at key
          revert key
          generalize World.setCell (World.setCell (World.setCell (World.setCell (World.setCell (World.setCell (World.setCell (World.setCell _ _ _) _ _) _ _) _ _) _ _) _ _) _ _) _ _ = WW
          rintro ⟨of, bf⟩
          have lf := of.cell
          refine bodyPost_ret (v := vecV B) (by simp [results, Try.results28, go_sem, lf]) rfl ⟨rfl, bf⟩

end Go.Proofs.Ythhbjgecdhogoaa
