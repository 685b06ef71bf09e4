/- 'TreePlaces' returns true, whatever it is given: the walk. -/
import Derived.Test.YtechmejmlelmmaaTreL
import Derived.Test.YtechmejmlelmmaaRefTre
namespace Go.Proofs.Ytechmejmlelmmaa
set_option linter.unusedVariables false
set_option linter.unusedSimpArgs false
set_option maxRecDepth 100000
open Go.RowKit

/-- How many are told, and where they are. -/
def plcN (l : List Pr) : Nat := match trRoot l with | some _ => l.length | none => 0
def plcS (l : List Pr) : Nat → Nat × Nat := match trRoot l with | some r => trSf l r | none => fun _ => (0, 0)
theorem PlcOut.told {l : List Pr} {w w' : World} {e : Ending} (h : PlcOut l w e w') : ∃ oa b, e = .returned (.slice oa (plcN l) (plcN l)) ∧ (0 < plcN l → oa = some ⟨b, 0, none⟩ ∧ NdW w' (plcN l) (plcS l) b) ∧ Below w.heap.size w w' := by
  unfold plcN plcS
  rcases h with ⟨h1, h2, h3⟩ | ⟨r, b, h1, h2, h3, h4⟩
  · rw [h1]; exact ⟨none, 0, h2, fun h => absurd h (Nat.lt_irrefl _), h3⟩
  · rw [h1]; exact ⟨_, b, h2, fun _ => ⟨rfl, h3⟩, h4⟩

def IRel (n : Nat) (w : World) (iv : Value) (wr : World) : Prop := ∃ k : Nat, k ≤ n ∧ iv = .int .i64 k ∧ Hid (Below w.heap.size w wr)

set_option maxRecDepth 100000 in
set_option maxHeartbeats 8000000 in
theorem treePlaces_calls (l : List Pr) (v : Value) (w : World) (h : LKT w l v) :
    Calls Try.prog 3 #[v] w fun e w' => e = .returned (.bool true) ∧ Below w.heap.size w w' := by
  have CU := Lib.hid (up20_calls w)
  have HA := Lib.hid h
  clear h
  go_enter Try.func3, Try.ntmps3
  go_wp2_with fail
  refine CU.out.mono ?_; rintro e w1 ⟨rfl, hb1⟩
  replace HA := Lib.hid (HA.out.later hb1 (Nat.le_refl _))
  have BL := Lib.hid hb1
  clear hb1 CU
  have CF := Lib.hid (few20_calls l v w1 HA.out)
  have HFY := Lib.hid (fun h => few20_yes (l := l) h)
  generalize few20 l = fw at *
  by_cases hf : fw = 0
  · subst hf
    go_wp2_with fail
    refine CF.out.mono ?_; rintro e w2 ⟨rfl, hb2⟩
    replace BL := Lib.hid (BL.out.trans (hb2.mono BL.out.size))
    clear hb2 CF
    go_wp2_with fail
    go_ret
    exact ⟨rfl, BL.out⟩
  · obtain ⟨e1, h12, hs⟩ := HFY.out hf
    subst e1
    clear HFY hf
    have HS := Lib.hid hs
    go_wp2_with fail
    refine CF.out.mono ?_; rintro e w2 ⟨rfl, hb2⟩
    replace HA := Lib.hid (HA.out.later hb2 (Nat.le_refl _))
    replace BL := Lib.hid (BL.out.trans (hb2.mono BL.out.size))
    clear hb2 CF
    have CP := Lib.hid (preds_calls l v w2 HA.out hs h12)
    clear hs
    go_wp2_with fail
    refine CP.out.mono ?_; rintro e w3 ⟨v', rfl, hl3, hb3⟩
    replace BL := Lib.hid (BL.out.trans (hb3.mono BL.out.size))
    clear hb3 CP
    obtain ⟨oa, cap, rfl⟩ := lies_val hl3
    simp only [Pr.kids_node] at *
    have CT := Lib.hid (treePlace_calls l oa cap w3 (fun k hk => by have := HS.out k hk; omega) hl3)
    have HL3 := Lib.hid hl3
    clear hl3
    have HLN := Lib.hid (show plcN l ≤ 12 by unfold plcN; split <;> omega)
    go_wp2_with fail
    refine CT.out.mono ?_
    intro e w4 ho
    obtain ⟨og, bg, rfl, hg, hb4⟩ := ho.told
    clear ho
    have CR := Lib.hid (refPlace_calls l oa cap w4 (fun k hk => by have := HS.out k hk; omega) (by omega) (HL3.out.later hb4 (Nat.le_refl _)))
    replace BL := Lib.hid (BL.out.trans (hb4.mono BL.out.size))
    have HG := Lib.hid hg
    clear hg hb4 CT
    go_wp2_with fail
    refine CR.out.mono ?_
    intro e w5 ho
    obtain ⟨ow, bw, rfl, hg, hb5⟩ := ho.told
    clear ho
    have HG5 := Lib.hid (fun h0 => (⟨(HG.out h0).1, (HG.out h0).2.later hb5⟩ : og = some ⟨bg, 0, none⟩ ∧ NdW w5 (plcN l) (plcS l) bg))
    replace BL := Lib.hid (BL.out.trans (hb5.mono BL.out.size))
    have HW5 := Lib.hid hg
    clear hg hb5 CR HG HA HL3 HS
    have hn := HLN.out
    clear HLN
    generalize plcN l = n at *
    generalize plcS l = s at *
    go_wp2_with fail
    go_loopw [7] (fun iv wr => IRel n w5 iv wr) (fun iv _ => n - (intOf iv).toNat)
    case atStart => exact ⟨0, Nat.zero_le _, rfl, Lib.hid (Below.refl _ _)⟩
    case round =>
      have B5 := BL
      clear BL
      obtain ⟨k, hk, rfl, BL⟩ := hrel
      by_cases hlt : k < n
      · obtain ⟨rfl, h1⟩ := HG5.out (by omega)
        obtain ⟨rfl, h2⟩ := HW5.out (by omega)
        have g1 := h1.later BL.out
        have g2 := h2.later BL.out
        have r0 := fun dd os => cell_regrown (g1.c0 k hlt) dd os
        have r1 := fun dd os => cell_regrown (g1.c1 k hlt) dd os
        have r2 := fun dd os => cell_regrown (g2.c0 k hlt) dd os
        have r3 := fun dd os => cell_regrown (g2.c1 k hlt) dd os
        have q0 : (0 : Int) ≤ (k : Int) := by omega
        have q1 : (k : Int) < (n : Int) := by omega
        have q2 : (k : Int) + 1 ≤ 9223372036854775807 := by omega
        generalize (s k).1 = a at *
        generalize (s k).2 = b at *
        clear h1 h2 g1 g2
        go_wp2_with fail
        refine wp_region_quiet_below (by kernel_rfl) (by kernel_rfl) ?_
        repeat (first | go_big_quiet_step (fail) | quiet_step (fail))
        refine wpQuiet_nil ?_
        intro w8 hw8
        have hb8 := Lib.hid (regrown_below hw8)
        clear hw8 r0 r1 r2 r3
        replace BL := Lib.hid (BL.out.trans (hb8.out.mono BL.out.size))
        clear hb8
        go_wp2_with fail
        go_roundw
        case rel => exact ⟨k + 1, by omega, by go_num, BL⟩
        case measure => simp [intOf] <;> omega
      · go_wp2_with fail
        go_ret
        exact ⟨rfl, B5.out.trans (BL.out.mono B5.out.size)⟩
end Go.Proofs.Ytechmejmlelmmaa
