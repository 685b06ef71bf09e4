/- Joined: KBey, VecMay, Keys, LMay. -/
import Derived.Test.YtjkcooakddlppaaGreatJ18
import Derived.Test.YtjkcooakddlppaaGreatJ06
import Derived.Shelf.SlIter.Nil
import Derived.Shelf.SortM.Plain
import Derived.Shelf.SortM.SortNone
import Derived.Test.YtjkcooakddlppaaGreatJ05
import Derived.Test.YtjkcooakddlppaaGreatJ19
import Derived.Test.YtjkcooakddlppaaGreatJ10
import Derived.Deep.DeepCutAuto
/- Counts above others: the code's own, walked. -/
namespace Go.Proofs.YtjkcooakddlppaaGreat
set_option linter.unusedVariables false
set_option linter.unusedSimpArgs false
set_option maxRecDepth 100000
open Go.RowKit
def bzV (V A : Nat → Int) (j : Nat) : Int := if V j ≤ A j then 0 else V j
def bz8 (V A : Nat → Int) (k : Nat) (j : Nat) : Int := if j < k then bzV V A j else V j
theorem bz8_zero (V A : Nat → Int) : arr8 V = arr8 (bz8 V A 0) := arr_congr fun j _ => by unfold bz8; rw [if_neg (by omega)]
theorem bz8_whole (V A : Nat → Int) : arr8 (bz8 V A 8) = arr8 (bzV V A) := arr_congr fun j h => by unfold bz8; rw [if_pos h]
theorem bz8_put (V A : Nat → Int) {k : Nat} {v : Int} (hv : v = bzV V A k) : arr8 (fun j => if j = k then v else bz8 V A k j) = arr8 (bz8 V A (k + 1)) := arr_congr fun j _ => by
  unfold bz8
  by_cases e : j = k
  · subst e; rw [if_pos rfl, if_pos (by omega)]; exact hv
  · rw [if_neg e]
    by_cases h : j < k
    · rw [if_pos h, if_pos (by omega)]
    · rw [if_neg h, if_neg (by omega)]
theorem bz8_stay (V A : Nat → Int) {k : Nat} (hv : V k = bzV V A k) : arr8 (bz8 V A k) = arr8 (bz8 V A (k + 1)) := arr_congr fun j _ => by
  unfold bz8
  by_cases e : j = k
  · subst e; rw [if_neg (by omega), if_pos (by omega)]; exact hv
  · by_cases h : j < k
    · rw [if_pos h, if_pos (by omega)]
    · rw [if_neg h, if_neg (by omega)]
structure BZ (V A : Nat → Int) (k : Nat) (w wr : World) : Prop where
  o1 : Own wr w.heap.size (arr8 (bz8 V A k)) 28
  o3 : Own wr (w.heap.size + 1 + 1) (arr8 fun _ => 0) 28
  bel : Below w.heap.size w wr
def BZRel (V A : Nat → Int) (w : World) (i : Value) (wr : World) : Prop := ∃ k : Nat, k ≤ 8 ∧ i = .int .i64 k ∧ Hid (BZ V A k w wr)
set_option maxRecDepth 100000 in
set_option maxHeartbeats 4000000 in
theorem codeBeyond_calls (V A : Nat → Int) (w : World) :
    Calls Tryz.prog 148 #[vecV V, vecV A] w fun e w' => e = .returned (vecV (bzV V A)) ∧ Below w.heap.size w w' := by
  have I0 : BZ V A 0 w (((w.alloc (.cells (arr8 V) 28)).alloc (.cells (arr8 A) 28)).alloc (.cells (arr8 fun _ => 0) 28)) :=
    ⟨by rw [← bz8_zero]; exact ((Own.new w _ _).alloc _).alloc _, Own.newAt _ _ _ (by simp), (((Below.refl _ _).alloc (Nat.le_refl _) _).alloc (by simp) _).alloc (by simp; omega) _⟩
  have HI0 := Lib.hid I0
  clear I0
  go_enter Tryz.func148, Tryz.ntmps148
  go_wp2_with fail
  go_loopw [8] (fun i wr => BZRel V A w i wr) (fun i _ => 8 - (intOf i).toNat)
  case atStart => exact ⟨0, by omega, rfl, HI0⟩
  case round =>
    clear HI0
    obtain ⟨k, hk, rfl, HP⟩ := hrel
    by_cases hlt : k < 8
    · have ix := fun w => idx8 A hlt w
      have ca := (HP.out.o1.cell k).trans (arr_get (bz8 V A k) hlt)
      rw [show bz8 V A k k = V k by unfold bz8; rw [if_neg (by omega)]] at ca
      have fa := HP.out.o1.free k
      have z1 := HP.out.o1.lt
      have k0 : (0 : Int) ≤ (k : Int) := by omega
      have k1 : (k : Int) < 8 := by omega
      by_cases h : V k ≤ A k
      · have g : decide (V k ≤ A k) = true := decide_eq_true h
        have HR : Hid (BZ V A (k + 1) w (wr.setCell ⟨w.heap.size, k, none⟩ (.int .i64 0))) := Lib.hid (by
          refine ⟨?_, HP.out.o3.setFar _ _ (by show w.heap.size + 1 + 1 ≠ w.heap.size; omega), HP.out.bel.setCell (p := ⟨w.heap.size, k, none⟩) (Nat.le_refl _) _⟩
          rw [← bz8_put V A (v := 0) (by unfold bzV; rw [if_pos h]), ← arr_set _ hlt]
          exact HP.out.o1.set k _)
        go_wp2_with fail
        go_roundw
        case rel => exact ⟨k + 1, by omega, by go_num, HR⟩
        case measure => simp [intOf]; omega
      · have g : decide (V k ≤ A k) = false := decide_eq_false h
        have HR : Hid (BZ V A (k + 1) w wr) := Lib.hid ⟨by rw [← bz8_stay V A (by unfold bzV; rw [if_neg h])]; exact HP.out.o1, HP.out.o3, HP.out.bel⟩
        go_wp2_with fail
        go_roundw
        case rel => exact ⟨k + 1, by omega, by go_num, HR⟩
        case measure => simp [intOf]; omega
    · have e : k = 8 := by omega
      subst e
      have o1 := HP.out.o1
      rw [bz8_whole] at o1
      have l3 := HP.out.o3.cell
      have f3 := HP.out.o3.free
      have z3 := HP.out.o3.lt
      have l4 := o1.cell
      have z4 := o1.lt
      have BEL := Lib.hid HP.out.bel
      go_wp2_with fail
      have key := And.intro (st8_own HP.out.o3 (.int .i64 ((bzV V A) 0)) (.int .i64 ((bzV V A) 1)) (.int .i64 ((bzV V A) 2)) (.int .i64 ((bzV V A) 3)) (.int .i64 ((bzV V A) 4)) (.int .i64 ((bzV V A) 5)) (.int .i64 ((bzV V A) 6)) (.int .i64 ((bzV V A) 7))) (st8_below (b := w.heap.size + 1 + 1) BEL.out (by omega) (.int .i64 ((bzV V A) 0)) (.int .i64 ((bzV V A) 1)) (.int .i64 ((bzV V A) 2)) (.int .i64 ((bzV V A) 3)) (.int .i64 ((bzV V A) 4)) (.int .i64 ((bzV V A) 5)) (.int .i64 ((bzV V A) 6)) (.int .i64 ((bzV V A) 7)))
      clear l3 f3 z3 l4 z4
      unfold st8 at key
      revert key
      generalize World.setCell (World.setCell (World.setCell (World.setCell (World.setCell (World.setCell (World.setCell (World.setCell _ _ _) _ _) _ _) _ _) _ _) _ _) _ _) _ _ = WW
      rintro ⟨of, bf⟩
      have lf := of.cell
      refine bodyPost_ret (v := vecV ((bzV V A))) (by simp [results, Tryz.results148, go_sem, lf]) rfl ⟨rfl, bf⟩
end Go.Proofs.YtjkcooakddlppaaGreat
/- Counts of replicas: the code's own May, walked. -/
namespace Go.Proofs.YtjkcooakddlppaaGreat
set_option linter.unusedVariables false
set_option linter.unusedSimpArgs false
set_option maxRecDepth 100000
open Go.RowKit
set_option maxHeartbeats 2000000 in
theorem vecMay_calls (A : Nat → Int) (w : World) :
    Calls Tryz.prog 118 #[vecV A] w fun e w' => e = .returned (.bool (mayV A)) ∧ Below w.heap.size w w' := by
  go_enter Tryz.func118, Tryz.ntmps118
  go_wp2_with fail
  go_loopw [6] (fun i wr => VAllRel (fun j => 0 ≤ A j ∧ A j ≤ 1000) (w.alloc (.cells (arr8 A) 28)) i wr) (fun i _ => 8 - (intOf i).toNat)
  case atStart => exact ⟨0, by omega, rfl, fun j hj => absurd hj (by omega), Below.refl _ _⟩
  case round =>
    obtain ⟨k, hk, rfl, HS, hb⟩ := hrel
    have BW := Lib.hid (below_new hb)
    have HB := Lib.hid hb
    clear hb
    by_cases hlt : k < 8
    · have ix := fun w => idx8 A hlt w
      have k0 : (0 : Int) ≤ (k : Int) := by omega
      have k1 : (k : Int) < 8 := by omega
      by_cases h : A k < 0
      · have E := Lib.hid (mayV_false hlt (.inl h))
        have g : decide (A k < 0) = true := decide_eq_true h
        go_wp2_with fail
        go_ret
        exact ⟨ret_bool E.out.symm, BW.out⟩
      by_cases h' : 1000 < A k
      · have E := Lib.hid (mayV_false hlt (.inr h'))
        have g : decide (A k < 0) = false := decide_eq_false h
        have g' : decide (1000 < A k) = true := decide_eq_true h'
        go_wp2_with fail
        go_ret
        exact ⟨ret_bool E.out.symm, BW.out⟩
      · have HN := Lib.hid (all_step (P := fun j => 0 ≤ A j ∧ A j ≤ 1000) HS.out (by omega))
        have g : decide (A k < 0) = false := decide_eq_false h
        have g' : decide (1000 < A k) = false := decide_eq_false h'
        go_wp2_with fail
        go_roundw
        case rel => exact ⟨k + 1, by omega, by go_num, HN.out, HB.out⟩
        case measure => simp [intOf]; omega
    · have e : k = 8 := by omega
      subst e
      have E := Lib.hid (mayV_iff.2 HS.out)
      go_wp2_with fail
      go_ret
      exact ⟨ret_bool E.out.symm, BW.out⟩
end Go.Proofs.YtjkcooakddlppaaGreat
/- The keys of the counts, sorted: the library's contracts of maps.Keys and slices.Sorted, laid at this program. No walk. -/
namespace Go.Proofs.YtjkcooakddlppaaGreat
set_option linter.unusedVariables false
set_option linter.unusedSimpArgs false
set_option maxRecDepth 100000
open Go.RowKit Go.Maps Go.Sort Go.Shelf
def keysA_ren : Go.Shelf.Ren := ⟨fun | 7 => 147 | 10 => 171 | n => n,
  fun | 23 => 155 | 26 => 9 | 3 => 28 | 28 => 160 | 0 => 0 | 27 => 159 | 33 => 121 | 4 => 4 | n => n,
  fun | n => n⟩
theorem keysA : Go.Proofs.SlLaysZ.n7 Tryz.prog keysA_ren := {
  mixed := by kernel_rfl,
  f7 := ⟨Tryz.f147.name, by decide, Tryz.func147.trans (congrArg some (by kernel_rfl))⟩,
  f10 := ⟨Tryz.f171.name, by decide, Tryz.func171.trans (congrArg some (by kernel_rfl))⟩,
  t0 := Tryz.underlying0,
  a0 := Tryz.isAgg0,
  z0 := Tryz.sizeOf0,
  v0 := Tryz.zeroValue0,
  t4 := Tryz.underlying4,
  a4 := Tryz.isAgg4,
  z4 := Tryz.sizeOf4,
  v4 := Tryz.zeroValue4,
  t23 := Tryz.underlying155,
  a23 := Tryz.isAgg155,
  z23 := Tryz.sizeOf155,
  v23 := Tryz.zeroValue155,
  t26 := Tryz.underlying9,
  a26 := Tryz.isAgg9,
  z26 := Tryz.sizeOf9,
  v26 := Tryz.zeroValue9,
  t27 := Tryz.underlying159,
  a27 := Tryz.isAgg159,
  z27 := Tryz.sizeOf159,
  v27 := Tryz.zeroValue159,
  t28 := Tryz.underlying160,
  a28 := Tryz.isAgg160,
  z28 := Tryz.sizeOf160,
  v28 := Tryz.zeroValue160,
  t33 := Tryz.underlying121,
  a33 := Tryz.isAgg121,
  z33 := Tryz.sizeOf121,
  v33 := Tryz.zeroValue121 }
def sortedA_ren : Go.Shelf.Ren := ⟨fun | 6 => 146 | 8 => 169 | 9 => 170 | 11 => 178 | 13 => 180 | 12 => 179 | 23 => 192 | 24 => 193 | 14 => 183 | 15 => 184 | 16 => 185 | 17 => 186 | 18 => 187 | 19 => 188 | 20 => 189 | 21 => 190 | 22 => 191 | 25 => 198 | 26 => 199 | 27 => 200 | 28 => 201 | 29 => 202 | 30 => 136 | 31 => 203 | n => n,
  fun | 26 => 9 | 28 => 160 | 24 => 113 | 0 => 0 | 3 => 3 | 37 => 173 | 48 => 190 | 50 => 192 | 4 => 4 | 40 => 184 | 39 => 183 | 45 => 134 | 5 => 5 | 9 => 9 | 51 => 196 | 55 => 200 | 57 => 202 | 58 => 125 | 33 => 121 | n => n,
  fun | n => n⟩
theorem sortedA : Go.Proofs.SlLaysZ.n6 Tryz.prog sortedA_ren := {
  mixed := by kernel_rfl,
  f6 := ⟨Tryz.f146.name, by decide, Tryz.func146.trans (congrArg some (by kernel_rfl))⟩,
  f8 := ⟨Tryz.f169.name, by decide, Tryz.func169.trans (congrArg some (by kernel_rfl))⟩,
  f11 := ⟨Tryz.f178.name, by decide, Tryz.func178.trans (congrArg some (by kernel_rfl))⟩,
  t0 := Tryz.underlying0,
  a0 := Tryz.isAgg0,
  z0 := Tryz.sizeOf0,
  v0 := Tryz.zeroValue0,
  t24 := Tryz.underlying113,
  a24 := Tryz.isAgg113,
  z24 := Tryz.sizeOf113,
  v24 := Tryz.zeroValue113,
  t26 := Tryz.underlying9,
  a26 := Tryz.isAgg9,
  z26 := Tryz.sizeOf9,
  v26 := Tryz.zeroValue9,
  t28 := Tryz.underlying160,
  a28 := Tryz.isAgg160,
  z28 := Tryz.sizeOf160,
  v28 := Tryz.zeroValue160,
  i26 := by kernel_rfl }
def sortA_ren : Go.Shelf.Ren := ⟨fun | 6 => 170 | 8 => 180 | 9 => 179 | 19 => 192 | 20 => 193 | 21 => 183 | 22 => 184 | 23 => 185 | 24 => 186 | 25 => 187 | 26 => 188 | 27 => 189 | 28 => 190 | 29 => 191 | 36 => 198 | 31 => 199 | 32 => 200 | 37 => 201 | 38 => 202 | 39 => 136 | 41 => 203 | n => n,
  fun | 27 => 113 | 29 => 9 | 3 => 3 | 32 => 173 | 26 => 113 | 0 => 0 | 44 => 190 | 46 => 192 | 4 => 4 | 36 => 184 | 35 => 183 | 41 => 134 | 5 => 5 | 9 => 9 | 53 => 196 | 57 => 200 | 63 => 202 | 64 => 125 | n => n,
  fun | n => n⟩
theorem sortA : Go.Proofs.SlLaysM.n6 Tryz.prog sortA_ren := {
  mixed := by kernel_rfl,
  f6 := ⟨Tryz.f170.name, by decide, Tryz.func170.trans (congrArg some (by kernel_rfl))⟩,
  f8 := Tryz.func180.trans (congrArg some (by kernel_rfl)),
  f9 := ⟨Tryz.f179.name, by decide, Tryz.func179.trans (congrArg some (by kernel_rfl))⟩,
  f19 := Tryz.func192.trans (congrArg some (by kernel_rfl)),
  f20 := Tryz.func193.trans (congrArg some (by kernel_rfl)),
  f21 := ⟨Tryz.f183.name, by decide, Tryz.func183.trans (congrArg some (by kernel_rfl))⟩,
  f22 := ⟨Tryz.f184.name, by decide, Tryz.func184.trans (congrArg some (by kernel_rfl))⟩,
  f23 := ⟨Tryz.f185.name, by decide, Tryz.func185.trans (congrArg some (by kernel_rfl))⟩,
  f24 := ⟨Tryz.f186.name, by decide, Tryz.func186.trans (congrArg some (by kernel_rfl))⟩,
  f25 := ⟨Tryz.f187.name, by decide, Tryz.func187.trans (congrArg some (by kernel_rfl))⟩,
  f26 := ⟨Tryz.f188.name, by decide, Tryz.func188.trans (congrArg some (by kernel_rfl))⟩,
  f27 := ⟨Tryz.f189.name, by decide, Tryz.func189.trans (congrArg some (by kernel_rfl))⟩,
  f28 := ⟨Tryz.f190.name, by decide, Tryz.func190.trans (congrArg some (by kernel_rfl))⟩,
  f29 := ⟨Tryz.f191.name, by decide, Tryz.func191.trans (congrArg some (by kernel_rfl))⟩,
  f31 := Tryz.func199.trans (congrArg some (by kernel_rfl)),
  f32 := Tryz.func200.trans (congrArg some (by kernel_rfl)),
  f36 := ⟨Tryz.f198.name, by decide, Tryz.func198.trans (congrArg some (by kernel_rfl))⟩,
  f37 := ⟨Tryz.f201.name, by decide, Tryz.func201.trans (congrArg some (by kernel_rfl))⟩,
  f38 := ⟨Tryz.f202.name, by decide, Tryz.func202.trans (congrArg some (by kernel_rfl))⟩,
  f39 := ⟨Tryz.f136.name, by decide, Tryz.func136.trans (congrArg some (by kernel_rfl))⟩,
  f41 := ⟨Tryz.f203.name, by decide, Tryz.func203.trans (congrArg some (by kernel_rfl))⟩,
  t0 := Tryz.underlying0,
  a0 := Tryz.isAgg0,
  z0 := Tryz.sizeOf0,
  v0 := Tryz.zeroValue0,
  t3 := Tryz.underlying3,
  a3 := Tryz.isAgg3,
  z3 := Tryz.sizeOf3,
  v3 := Tryz.zeroValue3,
  t4 := Tryz.underlying4,
  a4 := Tryz.isAgg4,
  z4 := Tryz.sizeOf4,
  v4 := Tryz.zeroValue4,
  t5 := Tryz.underlying5,
  a5 := Tryz.isAgg5,
  z5 := Tryz.sizeOf5,
  v5 := Tryz.zeroValue5,
  t9 := Tryz.underlying9,
  a9 := Tryz.isAgg9,
  z9 := Tryz.sizeOf9,
  v9 := Tryz.zeroValue9,
  t26 := Tryz.underlying113,
  a26 := Tryz.isAgg113,
  z26 := Tryz.sizeOf113,
  v26 := Tryz.zeroValue113,
  t27 := Tryz.underlying113,
  a27 := Tryz.isAgg113,
  z27 := Tryz.sizeOf113,
  v27 := Tryz.zeroValue113,
  t29 := Tryz.underlying9,
  a29 := Tryz.isAgg9,
  z29 := Tryz.sizeOf9,
  v29 := Tryz.zeroValue9,
  t32 := Tryz.underlying173,
  a32 := Tryz.isAgg173,
  z32 := Tryz.sizeOf173,
  v32 := Tryz.zeroValue173,
  t35 := Tryz.underlying183,
  a35 := Tryz.isAgg183,
  z35 := Tryz.sizeOf183,
  v35 := Tryz.zeroValue183,
  t36 := Tryz.underlying184,
  a36 := Tryz.isAgg184,
  z36 := Tryz.sizeOf184,
  v36 := Tryz.zeroValue184,
  t41 := Tryz.underlying134,
  a41 := Tryz.isAgg134,
  z41 := Tryz.sizeOf134,
  v41 := Tryz.zeroValue134,
  t44 := Tryz.underlying190,
  a44 := Tryz.isAgg190,
  z44 := Tryz.sizeOf190,
  v44 := Tryz.zeroValue190,
  t46 := Tryz.underlying192,
  a46 := Tryz.isAgg192,
  z46 := Tryz.sizeOf192,
  v46 := Tryz.zeroValue192,
  t53 := Tryz.underlying196,
  a53 := Tryz.isAgg196,
  z53 := Tryz.sizeOf196,
  v53 := Tryz.zeroValue196,
  t57 := Tryz.underlying200,
  a57 := Tryz.isAgg200,
  z57 := Tryz.sizeOf200,
  v57 := Tryz.zeroValue200,
  t63 := Tryz.underlying202,
  a63 := Tryz.isAgg202,
  z63 := Tryz.sizeOf202,
  v63 := Tryz.zeroValue202,
  t64 := Tryz.underlying125,
  a64 := Tryz.isAgg125,
  z64 := Tryz.sizeOf125,
  v64 := Tryz.zeroValue125 }
theorem sortsA (m : Nat) : AnyZ.SortsIn Tryz.prog sortedA_ren Fence.wide m :=
  ⟨fun blk off cap ss W hH hblk hsz => callsIn_wide.2 (AnyM.slices_Sort_string sortA blk off cap ss W hH hblk hsz),
   fun p cap W => callsIn_wide.2 (AnyM.slices_Sort_string_none sortA p cap W)⟩
theorem keys_calls (mb : Option Nat) (W : World) : Calls Tryz.prog 147 #[.map mb] W fun e w' => e = .returned (.func (.func 171) #[] #[.pointer (some ⟨W.heap.size, 0, none⟩)]) ∧ w' = W.alloc (.cells #[.map mb] 155) :=
  callsIn_wide.1 (AnyZ.keys_in keysA Fence.wide 5 trivial rfl mb W)
set_option maxHeartbeats 1000000 in
theorem sorted_raw {H : Type} (b nn : Nat) (D0 : DataW H) (R : Value → Option (DataW H × List MemPlace)) (w : World) (hown : w.ownsMap Tryz.prog 9 R b nn D0) (hmax : Maps.size D0 ≤ maxLen) (hbytes : Maps.size D0 * 16 ≤ 140737488355328) :
    Calls Tryz.prog 146 #[.func (.func 171) #[] #[.pointer (some ⟨w.heap.size, 0, none⟩)]] (w.alloc (.cells #[.map (some b)] 155)) fun e w' => ∃ (v : Value) (ss : List (List UInt8)), e = .returned v ∧ ss.Perm (strKeys D0) ∧
      w'.ownsRow (w.alloc (.cells #[.map (some b)] 155)).heap.size 9 1 v ss.length ((ss.mergeSort (fun x y => decide (x ≤ y))).map encStr) ∧ (v = .slice none 0 0 ↔ ss = []) ∧ Below (w.alloc (.cells #[.map (some b)] 155)).heap.size (w.alloc (.cells #[.map (some b)] 155)) w' := by
  have hbl := hown.lt
  have hseq : SeqGives Fence.wide 2 Tryz.prog 171 #[.pointer (some ⟨w.heap.size, 0, none⟩)] encStr (fun ss => ss.Perm (strKeys D0)) (Maps.size D0) (w.alloc (.cells #[.map (some b)] 155)) :=
    AnyZ.keys_gives (ρ := keysA_ren) { keysA with } Fence.wide _ trivial rfl (by omega) w.heap.size b nn D0 _ (by simp) (by simp) (by
      obtain ⟨es, clock, hb, Ft, hs, hD⟩ := hown
      exact ⟨es, clock, (Below.heap_alloc _ _ b hbl).trans hb, Ft, hs, hD⟩)
  exact callsIn_wide.1 (AnyZ.sorted_in sortedA Fence.wide 5 trivial trivial trivial trivial rfl (by omega) (sortsA _) (enters_of Tryz.func170 (by kernel_rfl) rfl) 171 #[.pointer (some ⟨w.heap.size, 0, none⟩)] trivial (enters_of Tryz.func171 (by kernel_rfl) rfl) _ _ hmax hbytes _ hseq)
theorem tl_data (s : ByteArray) : s.toList = s.data.toList := ByteArray.toList_eq s
theorem rise_sorted {ns : List ByteArray} (h : Rise ns) : (ns.map fun s => s.data.toList).Pairwise (fun a b => (decide (a ≤ b)) = true) := by
  refine List.pairwise_map.2 (List.Pairwise.imp (fun {a b} hab => ?_) h)
  unfold lsB at hab
  rw [Go.Proofs.bytesLess_eq, tl_data, tl_data] at hab
  rw [decide_eq_true_eq] at *
  exact List.le_of_lt hab
theorem rise_nodup {ns : List ByteArray} (h : Rise ns) : (ns.map fun s => s.data.toList).Nodup := by
  refine List.pairwise_map.2 (List.Pairwise.imp (fun {a b} hab e => ?_) h)
  exact ls_ne hab (tl_inj (by rw [tl_data, tl_data]; exact e))
theorem perm_names {H : Type} {D : DataW H} {ns : List ByteArray} (hr : Rise ns) (ht : Tidy D) (hk : ∃ es, D = .map es ∧ ∀ p ∈ es, KeysOf Tryz.prog 9 p.1) (hm : ∀ s : ByteArray, Maps.has D (.string s.data.toList) = true ↔ s ∈ ns) : (ns.map fun s => s.data.toList).Perm (strKeys D) := by
  obtain ⟨es, rfl, hp⟩ := ht
  obtain ⟨es', e, hk⟩ := hk
  cases e
  refine perm_strKeys hp (fun p hp' => ?_) (rise_nodup hr) fun x => ?_
  · obtain ⟨v, hv⟩ := hk p hp'
    obtain ⟨x, _, hx, _⟩ := Maps.keyOf_str Tryz.underlying9 hv
    exact ⟨x, hx⟩
  · have h := hm ⟨x.toArray⟩
    simp only [] at h
    rw [h, List.mem_map]
    constructor
    · rintro ⟨s, hs, rfl⟩
      exact hs
    · intro hs
      exact ⟨_, hs, rfl⟩
theorem sorted_calls {H : Type} (b nn : Nat) (D0 : DataW H) (R : Value → Option (DataW H × List MemPlace)) (w : World) (hown : w.ownsMap Tryz.prog 9 R b nn D0) (ns : List ByteArray) (hr : Rise ns) (hm : ∀ s : ByteArray, Maps.has D0 (.string s.data.toList) = true ↔ s ∈ ns) (hlen : ns.length ≤ 10000) :
    Calls Tryz.prog 146 #[.func (.func 171) #[] #[.pointer (some ⟨w.heap.size, 0, none⟩)]] (w.alloc (.cells #[.map (some b)] 155)) fun e w' => ∃ (v : Value), e = .returned v ∧
      OwnT w' (w.heap.size + 1) ns v ∧ Below (w.heap.size + 1) (w.alloc (.cells #[.map (some b)] 155)) w' := by
  have hp := perm_names hr (hown.tidy (string_keyed Tryz.underlying9)) hown.keysOf hm
  have hsz : Maps.size D0 = ns.length := by
    obtain ⟨es, rfl, _⟩ := hown.keysOf
    have h1 := hp.length_eq
    simp only [strKeys, List.length_map] at h1
    rw [Maps.size_eq]; exact h1.symm
  refine (sorted_raw b nn D0 R w hown (by unfold maxLen; omega) (by omega)).mono ?_
  rintro e w' ⟨v, ss, rfl, hs, hrow, _, hb⟩
  have e1 : (w.alloc (.cells #[.map (some b)] 155)).heap.size = w.heap.size + 1 := by simp
  rw [e1] at hrow hb
  refine ⟨v, rfl, ?_, hb⟩
  have e2 : ss.length = ns.length := by rw [hs.length_eq, ← hp.length_eq, List.length_map]
  have e3 : ss.mergeSort (fun x y => decide (x ≤ y)) = ns.map fun s => s.data.toList := by
    rw [show (ss.mergeSort fun x y => decide (x ≤ y)) = _ from mergeSort_of_perm (hs.trans hp.symm)]
    exact List.mergeSort_of_pairwise (rise_sorted hr)
  have e4 : (ns.map fun s => s.data.toList).map encStr = txC ns := by
    rw [List.map_map]
    unfold txC
    refine List.map_congr_left fun s _ => ?_
    simp [encStr]
  unfold OwnT
  rw [e2, e3, e4] at hrow
  exact hrow
theorem keysC (mb : Option Nat) (W : World) (B : Nat) (hB : W.heap.size = B) : Calls Tryz.prog 147 #[.map mb] W fun e w' => e = .returned (.func (.func 171) #[] #[.pointer (some ⟨B, 0, none⟩)]) ∧ w' = W.alloc (.cells #[.map mb] 155) := by
  subst hB
  exact keys_calls mb W
theorem sortedC {w : World} {b nn : Nat} {ids : List ByteArray} {raw : ByteArray → Nat → Int} (h : Cnt w b nn ids raw) (ns : List ByteArray) (hr : Rise ns) (hm : ∀ s : ByteArray, s ∈ ids ↔ s ∈ ns) (hlen : ns.length ≤ 10000) (B : Nat) (hB : w.heap.size = B) :
    Calls Tryz.prog 146 #[.func (.func 171) #[] #[.pointer (some ⟨B, 0, none⟩)]] (w.alloc (.cells #[.map (some b)] 155)) fun e w' => ∃ (v : Value), e = .returned v ∧
      OwnT w' (B + 1) ns v ∧ Below (B + 1) (w.alloc (.cells #[.map (some b)] 155)) w' := by
  subst hB
  obtain ⟨D, ho, _, hh⟩ := h
  exact sorted_calls b nn D heldR w ho ns hr (fun s => (hh s).trans (hm s)) hlen
end Go.Proofs.YtjkcooakddlppaaGreat
/- The code's list.May, Get. Walked. -/
namespace Go.Proofs.YtjkcooakddlppaaGreat
set_option linter.unusedVariables false
set_option linter.unusedSimpArgs false
set_option maxRecDepth 100000
open Go.RowKit
theorem mayC_calls (i : Itm) (w : World) :
    Calls Tryz.prog 87 #[iV i] w fun e w' => e = .returned (.bool (mayT i)) ∧ Below w.heap.size w w' :=
  itemMay_calls i.id i.r i.c i.st i.kd i.num i.x i.y i.d w
theorem mayLB_all {l : List Itm} (h1 : ∀ j a, j < l.length → l[j]? = some a → mayT a = true) (h2 : ∀ j a b, j + 1 < l.length → l[j]? = some a → l[j + 1]? = some b → upB a b = true) : mayLB l = true := by
  unfold mayLB
  rw [allI_true h1, rises_iff.2 fun j a b ha hb => h2 j a b (some_posI hb) ha hb]; rfl
theorem mayLB_item {l : List Itm} {k : Nat} {i : Itm} (hi : l[k]? = some i) (h : mayT i = false) : mayLB l = false := by
  unfold mayLB; rw [allI_false hi h]; rfl
theorem mayLB_up {l : List Itm} {k : Nat} {a b : Itm} (ha : l[k]? = some a) (hb : l[k + 1]? = some b) (h : upB a b = false) : mayLB l = false := by
  unfold mayLB; rw [rises_false ha hb h, Bool.and_false]
def LMayRel (l : List Itm) (len : Nat) (w : World) (iv : Value) (wr : World) : Prop :=
  ∃ k : Nat, k ≤ len ∧ iv = .int .i64 k ∧ Hid (∀ j a, j < k → l[j]? = some a → mayT a = true) ∧ Hid (∀ j a b, j + 1 < k → l[j]? = some a → l[j + 1]? = some b → upB a b = true) ∧ Hid (Below w.heap.size w wr)
set_option maxRecDepth 100000 in
set_option maxHeartbeats 8000000 in
theorem listMay_calls (l : List Itm) (v : Value) (w : World) (hR : Row 8 ic w l v) (_ : l.length ≤ 1000) :
    Calls Tryz.prog 114 #[v] w fun e w' => e = .returned (.bool (mayLB l)) ∧ Below w.heap.size w w' := by
  obtain ⟨oa, cap, b, o, rfl, hr⟩ := hR
  have HR := Lib.hid hr
  have HM := fun i w => mayC_calls i w
  have hcap := hr.len
  have hmax := hr.max
  unfold maxLen at hmax
  clear hr
  generalize hn : l.length = len at *
  have HN := Lib.hid hn
  clear hn
  go_enter Tryz.func114, Tryz.ntmps114
  go_wp2_with fail
  go_loopw [7] (fun iv wr => LMayRel l len w iv wr) (fun iv _ => len - (intOf iv).toNat)
  case atStart => exact ⟨0, Nat.zero_le _, rfl, fun j a hj => absurd hj (by omega), fun j a b hj => absurd hj (by omega), Below.refl _ _⟩
  case round =>
    obtain ⟨k, hk, rfl, HS, HU, HB⟩ := hrel
    by_cases hlt : k < len
    · obtain ⟨i, hi9⟩ : ∃ i, l[k]? = some i := ⟨_, List.getElem?_eq_getElem (by rw [HN.out]; omega)⟩
      obtain ⟨rfl, hb0⟩ := HR.out.at0 (by rw [HN.out]; omega)
      obtain ⟨c0, c1, c2, c3, c4, c5, c6, c7⟩ := ic_cells (w := wr) (fun j u hu => (HB.out.cell (p := ⟨b, o + k * 8 + j, none⟩) hb0).trans (HR.out.cell k i hi9 j u hu))
      have zb := Nat.lt_of_lt_of_le hb0 HB.out.size
      have O := Has.new wr (iA i) 49
      have HB1 := Lib.hid (HB.out.alloc HB.out.size (.cells (iA i) 49))
      have r0 := fun dd os => cell_regrown (O.cell 0) dd os
      have r1 := fun dd os => cell_regrown (O.cell 1) dd os
      have r2 := fun dd os => cell_regrown (O.cell 2) dd os
      have r3 := fun dd os => cell_regrown (O.cell 3) dd os
      have r4 := fun dd os => cell_regrown (O.cell 4) dd os
      have r5 := fun dd os => cell_regrown (O.cell 5) dd os
      have r6 := fun dd os => cell_regrown (O.cell 6) dd os
      have r7 := fun dd os => cell_regrown (O.cell 7) dd os
      have m1 := fun dd os => Lib.hid (Calls.regrown_of (HM i (Sort.grow (redrawn (wr.alloc (.cells (iA i) 49)) dd) os)))
      have k0 : (0 : Int) ≤ (k : Int) := by omega
      have k1 : (k : Int) < (len : Int) := by omega
      have HI := Lib.hid hi9
      clear hi9 O HM
      cases ht : mayT i
      · have E := Lib.hid (mayLB_item HI.out ht)
        rw [ht] at m1
        clear ht
        go_wp2_with fail
        refine wp_region_quiet_below (by kernel_rfl) (by kernel_rfl) ?_
        repeat (first | go_big_quiet_step ((with_reducible exact (m1 _ _).out)) | quiet_step ((with_reducible exact (m1 _ _).out)))
        refine wpQuiet_nil ?_
        intro w7 hw'
        have hb' := Lib.hid (regrown_below hw')
        clear hw'
        clear m1
        go_wp2_with fail
        go_ret
        exact ⟨ret_bool E.out.symm, HB1.out.trans (hb'.out.mono HB1.out.size)⟩
      · have HS2 := Lib.hid (allI_step HS.out HI.out ht)
        rw [ht] at m1
        clear ht
        by_cases hk0 : k = 0
        · subst hk0
          simp only [Nat.zero_mul, Nat.add_zero] at c0 c1 c2 c3 c4 c5 c6 c7
          have HU2 := Lib.hid (show ∀ j a b, j + 1 < 0 + 1 → l[j]? = some a → l[j + 1]? = some b → upB a b = true from fun j a b hj => absurd hj (by omega))
          go_wp2_with fail
          refine wp_region_quiet_below (by kernel_rfl) (by kernel_rfl) ?_
          repeat (first | go_big_quiet_step ((with_reducible exact (m1 _ _).out)) | quiet_step ((with_reducible exact (m1 _ _).out)))
          refine wpQuiet_nil ?_
          intro w7 hw'
          have hb' := Lib.hid (regrown_below hw')
          clear hw'
          clear m1 r0 r1 r2 r3 r4 r5 r6 r7
          go_wp2_with fail
          go_roundw
          case rel => exact ⟨0 + 1, by omega, by go_num, HS2.out, HU2.out, Lib.hid (HB1.out.trans (hb'.out.mono HB1.out.size))⟩
          case measure => simp [intOf]; omega
        · obtain ⟨q, rfl⟩ : ∃ q, k = q + 1 := ⟨k - 1, by omega⟩
          obtain ⟨y, hy9⟩ : ∃ y, l[q]? = some y := ⟨_, List.getElem?_eq_getElem (by rw [HN.out]; omega)⟩
          have d0 := (ic_cells (w := wr.alloc (.cells (iA i) 49)) (fun j u hu => (HB1.out.cell (p := ⟨b, o + q * 8 + j, none⟩) hb0).trans (HR.out.cell q y hy9 j u hu))).1
          have s0 := fun dd os => cell_regrown d0 dd os
          have p0 : (0 : Int) < ((q + 1 : Nat) : Int) := by omega
          have p1 : ((q + 1 : Nat) : Int) - 1 = (q : Int) := by omega
          have p2 : (q : Int) < (len : Int) := by omega
          have p3 : (0 : Int) ≤ (q : Int) := by omega
          have HY := Lib.hid hy9
          clear d0 hy9
          cases hu : upB y i
          · have E := Lib.hid (mayLB_up HY.out HI.out hu)
            have hg : Op.bytesLess y.id.toList i.id.toList = false := by rw [up_eq] at hu; exact hu
            clear hu
            go_wp2_with fail
            refine wp_region_quiet_below (by kernel_rfl) (by kernel_rfl) ?_
            repeat (first | go_big_quiet_step ((with_reducible exact (m1 _ _).out)) | quiet_step ((with_reducible exact (m1 _ _).out)))
            refine wpQuiet_nil ?_
            intro w7 hw'
            have hb' := Lib.hid (regrown_below hw')
            clear hw'
            clear m1
            go_wp2_with fail
            go_ret
            exact ⟨ret_bool E.out.symm, HB1.out.trans (hb'.out.mono HB1.out.size)⟩
          · have hg : Op.bytesLess y.id.toList i.id.toList = true := by rw [up_eq] at hu; exact hu
            have HU2 := Lib.hid (show ∀ j a b, j + 1 < q + 1 + 1 → l[j]? = some a → l[j + 1]? = some b → upB a b = true from fun j a b hj ha hb => by
              by_cases e : j = q
              · subst e; rw [HY.out] at ha; rw [HI.out] at hb; cases ha; cases hb; exact hu
              · exact HU.out j a b (by omega) ha hb)
            clear hu
            go_wp2_with fail
            refine wp_region_quiet_below (by kernel_rfl) (by kernel_rfl) ?_
            repeat (first | go_big_quiet_step ((with_reducible exact (m1 _ _).out)) | quiet_step ((with_reducible exact (m1 _ _).out)))
            refine wpQuiet_nil ?_
            intro w7 hw'
            have hb' := Lib.hid (regrown_below hw')
            clear hw'
            clear m1 r0 r1 r2 r3 r4 r5 r6 r7 s0
            go_wp2_with fail
            go_roundw
            case rel => exact ⟨q + 1 + 1, by omega, by go_num, HS2.out, HU2.out, Lib.hid (HB1.out.trans (hb'.out.mono HB1.out.size))⟩
            case measure => simp [intOf]; omega
    · have E := Lib.hid (mayLB_all (l := l) (fun j a hj ha => HS.out j a (by rw [HN.out] at hj; omega) ha) (fun j a b hj ha hb => HU.out j a b (by rw [HN.out] at hj; omega) ha hb))
      go_wp2_with fail
      go_ret
      exact ⟨ret_bool E.out.symm, HB.out⟩
set_option maxRecDepth 100000 in
set_option maxHeartbeats 4000000 in
theorem listGet_calls (l : List Itm) (id : ByteArray) (v : Value) (w : World) (hR : Row 8 ic w l v) (hr : RiseI l) (hl : l.length ≤ 1000) (_ : id.size ≤ maxLen) :
    Calls Tryz.prog 40 #[v, .string id] w fun e w' => e = .returned (.tuple #[iV (getI l id).1, .bool (getI l id).2]) ∧ Below w.heap.size w w' := by
  have LR := Lib.hid (hR.alloc (.cells (iA Itm.zero) 49))
  have S := Lib.hid (span_calls l id v _ LR.out hr (by omega))
  have OT := Lib.hid (Own.new w (iA Itm.zero) 49)
  have BEL := Lib.hid ((Below.refl w.heap.size w).alloc (Nat.le_refl _) (.cells (iA Itm.zero) 49))
  clear hR
  cases hh : hitI l id
  · have e := getI_miss hr hh
    have et : toI l id = posI l id := by unfold toI; rw [hh]; rfl
    rw [e]
    rw [et] at S
    clear hr hh
    obtain ⟨oa, cap, rfl⟩ := LR.out.val
    have hk := pos_le l id
    clear e et
    generalize posI l id = k at *
    go_enter Tryz.func40, Tryz.ntmps40
    go_wp2_with (go_at_call 89; refine S.out.mono ?_; rintro e w' ⟨rfl, hb⟩; replace OT := Lib.hid (OT.out.later hb); replace BEL := Lib.hid (BEL.out.trans (hb.mono BEL.out.size)); have l1 := OT.out.cell; have f1 := OT.out.free; have z1 := OT.out.lt)
    have key := And.intro (st8_own OT.out (.string ⟨#[]⟩) (.int .i64 0) (.int .i64 0) (.int .i64 0) (.string ⟨#[]⟩) (.int .i64 0) (.complex .f64 0 0) (.bool false)) (st8_below (b := w.heap.size) BEL.out (Nat.le_refl _) (.string ⟨#[]⟩) (.int .i64 0) (.int .i64 0) (.int .i64 0) (.string ⟨#[]⟩) (.int .i64 0) (.complex .f64 0 0) (.bool false))
    unfold st8 at key
    revert key
    generalize World.setCell (World.setCell (World.setCell (World.setCell (World.setCell (World.setCell (World.setCell (World.setCell _ _ _) _ _) _ _) _ _) _ _) _ _) _ _) _ _ = WW
    rintro ⟨of, bf⟩
    exact ret_cell_tmp (by rfl) (by rfl) (by rfl) (l := ic Itm.zero) of.range Tryz.underlying49 (by rfl) (by kernel_rfl) rfl ⟨rfl, bf⟩
  · obtain ⟨i, hi, e⟩ := getI_hit hr hh
    have et : toI l id = posI l id + 1 := by unfold toI; rw [hh]; rfl
    rw [e]
    rw [et] at S
    clear hr hh
    obtain ⟨oa, cap, b, o, rfl, hL⟩ := LR.out
    have hk := some_posI hi
    clear e et
    generalize posI l id = k at *
    obtain ⟨rfl, hb0⟩ := hL.at0 (by omega)
    have cs := fun j u hu => hL.cell k i hi j u hu
    have k0 : (0 : Int) ≤ (k : Int) := by omega
    have k1 : (k : Int) < (l.length : Int) := by omega
    have CS := Lib.hid cs
    have hne : decide ((k : Int) = (k : Int) + 1) = false := decide_eq_false (by omega)
    have hne2 : ((k : Int) == (k : Int) + 1) = false := by rw [beq_eq_false_iff_ne]; omega
    clear cs hL
    go_enter Tryz.func40, Tryz.ntmps40
    go_wp2_with (go_at_call 89; refine S.out.mono ?_; rintro e w' ⟨rfl, hb⟩; obtain ⟨c0, c1, c2, c3, c4, c5, c6, c7⟩ := ic_cells (w := w') (fun j u hu => (hb.cell (p := ⟨b, o + k * 8 + j, none⟩) hb0).trans (CS.out j u hu)); have zb := Nat.lt_of_lt_of_le hb0 hb.size; replace OT := Lib.hid (OT.out.later hb); replace BEL := Lib.hid (BEL.out.trans (hb.mono BEL.out.size)); have l1 := OT.out.cell; have f1 := OT.out.free; have z1 := OT.out.lt)
    have key := And.intro (st8_own OT.out (.string i.id) (.int .i64 i.r) (.int .i64 i.c) (.int .i64 i.st) (.string i.kd) (.int .i64 i.num) (.complex .f64 i.x i.y) (.bool i.d)) (st8_below (b := w.heap.size) BEL.out (Nat.le_refl _) (.string i.id) (.int .i64 i.r) (.int .i64 i.c) (.int .i64 i.st) (.string i.kd) (.int .i64 i.num) (.complex .f64 i.x i.y) (.bool i.d))
    unfold st8 at key
    revert key
    generalize World.setCell (World.setCell (World.setCell (World.setCell (World.setCell (World.setCell (World.setCell (World.setCell _ _ _) _ _) _ _) _ _) _ _) _ _) _ _) _ _ = WW
    rintro ⟨of, bf⟩
    exact ret_cell_tmp (by rfl) (by rfl) (by rfl) (l := ic i) of.range Tryz.underlying49 (by rfl) (by kernel_rfl) rfl ⟨rfl, bf⟩
end Go.Proofs.YtjkcooakddlppaaGreat
