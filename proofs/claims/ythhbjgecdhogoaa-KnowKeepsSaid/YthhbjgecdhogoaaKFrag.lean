/- Pieces in lists: slices.ContainsFunc over two closures, slices.EqualFunc; equal, odd. Walked. -/
import Derived.Test.YthhbjgecdhogoaaKText
import Derived.Test.YthhbjgecdhogoaaKMap
import Derived.Test.YthhbjgecdhogoaaVecHas
import Derived.Test.YthhbjgecdhogoaaVecMay
import Derived.Test.YthhbjgecdhogoaaRefMayK
namespace Go.Proofs.Ythhbjgecdhogoaa
set_option linter.unusedVariables false
set_option linter.unusedSimpArgs false
open Go.RowKit

abbrev frV (f : Fr) (u : Value) : Value := .agg #[u, .int .i64 (f.v 0), .int .i64 (f.v 1), .int .i64 (f.v 2), .int .i64 (f.v 3), .int .i64 (f.v 4), .int .i64 (f.v 5), .int .i64 (f.v 6), .int .i64 (f.v 7)]
theorem any_takeF {P : Fr → Bool} {l : List Fr} {k : Nat} {f : Fr} (hf : l[k]? = some f) (h : (l.take k).any P = false) (hs : P f = false) : (l.take (k + 1)).any P = false := by
  rw [takeT hf, List.any_append, h]; simp [hs]
theorem any_hitF {P : Fr → Bool} {l : List Fr} {k : Nat} {f : Fr} (hf : l[k]? = some f) (hs : P f = true) : l.any P = true := List.any_eq_true.2 ⟨f, List.mem_of_getElem? hf, hs⟩
def AfRel (P : Fr → Bool) (l : List Fr) (n : Nat) (w0 : World) (i : Value) (wr : World) : Prop := ∃ k : Nat, k ≤ n ∧ i = .int .i64 k ∧ Hid ((l.take k).any P = false) ∧ Hid (Below w0.heap.size w0 wr)

set_option maxHeartbeats 2000000 in
theorem indexH_calls (P : Fr → Bool) (l : List Fr) (v : Value) (bx bi : Nat) (w : World) (hR : FrW w l v) (C : ∀ w', Below w.heap.size w w' → ∀ (k : Nat) (f : Fr) (u : Value), l[k]? = some f → TxW w' f.ids u → Calls Try.prog 34 #[frV f u, .pointer (some ⟨bx, 0, none⟩), .pointer (some ⟨bi, 0, none⟩)] w' fun e w'' => e = .returned (.bool (P f)) ∧ Below w'.heap.size w' w'') :
    Calls Try.prog 51 #[v, .func (Fn.func 34) #[] #[.pointer (some ⟨bx, 0, none⟩), .pointer (some ⟨bi, 0, none⟩)]] w fun e w' => ∃ n : Int, e = .returned (.int .i64 n) ∧ decide (0 ≤ n) = l.any P ∧ Below w.heap.size w w' := by
  obtain ⟨U, oa, cap, b, o, rfl, hF⟩ := hR
  have h1 := hF.len
  have h2 := hF.max
  unfold maxLen at h2
  have HF := Lib.hid hF
  have HC := Lib.hid C
  clear hF C
  generalize hn : l.length = n at *
  have HN := Lib.hid hn
  clear hn
  go_enter Try.func51, Try.ntmps51
  go_wp2_with fail
  go_loopw [8] (fun i wr => AfRel P l n w i wr) (fun i _ => n - (intOf i).toNat)
  case atStart => exact ⟨0, Nat.zero_le _, rfl, by simp [Hid], Lib.hid (Below.refl _ _)⟩
  case round =>
    obtain ⟨k, hk, rfl, HS, HB⟩ := hrel
    by_cases hlt : k < n
    · obtain ⟨f, hf⟩ : ∃ f, l[k]? = some f := ⟨_, List.getElem?_eq_getElem (by rw [HN.out]; exact hlt)⟩
      obtain ⟨rfl, hb⟩ := HF.out.at0 (by rw [HN.out]; omega)
      have FL := HF.out.later HB.out (Nat.le_refl _)
      obtain ⟨c0, c1, c2, c3, c4, c5, c6, c7, c8⟩ := fc_cells (w := wr) (fun j u hu => FL.cell k f hf j u hu)
      have zb : b < wr.heap.size := Nat.lt_of_lt_of_le hb HB.out.size
      have CC := Lib.hid (HC.out wr HB.out k f (U k) hf (FL.ids k f hf))
      have HX := Lib.hid hf
      obtain ⟨ou, cu, hU⟩ := (HF.out.ids k f hf).val
      rw [hU] at c0 CC
      clear FL hf hU
      cases hs : P f
      · rw [hs] at CC
        have HY := Lib.hid (any_takeF HX.out HS.out hs)
        clear HS
        go_wp2_with (go_at_call 34; refine CC.out.mono ?_; rintro e w' ⟨rfl, hb'⟩)
        go_roundw
        case rel => exact ⟨k + 1, by omega, by go_num, HY, Lib.hid (HB.out.trans (hb'.mono HB.out.size))⟩
        case measure => simp [intOf]; omega
      · rw [hs] at CC
        have HY := Lib.hid (any_hitF HX.out hs)
        clear HS
        go_wp2_with (go_at_call 34; refine CC.out.mono ?_; rintro e w' ⟨rfl, hb'⟩)
        go_ret
        exact ⟨_, rfl, by rw [HY.out]; simp, HB.out.trans (hb'.mono HB.out.size)⟩
    · have h := HS.out
      rw [List.take_of_length_le (by rw [HN.out]; omega)] at h
      have HY := Lib.hid h
      clear h HS
      go_wp2_with fail
      go_ret
      exact ⟨_, rfl, by rw [HY.out]; simp, HB.out⟩
set_option maxHeartbeats 1000000 in
theorem containsH_calls (P : Fr → Bool) (l : List Fr) (v : Value) (bx bi : Nat) (w : World) (hR : FrW w l v) (C : ∀ w', Below w.heap.size w w' → ∀ (k : Nat) (f : Fr) (u : Value), l[k]? = some f → TxW w' f.ids u → Calls Try.prog 34 #[frV f u, .pointer (some ⟨bx, 0, none⟩), .pointer (some ⟨bi, 0, none⟩)] w' fun e w'' => e = .returned (.bool (P f)) ∧ Below w'.heap.size w' w'') :
    Calls Try.prog 33 #[v, .func (Fn.func 34) #[] #[.pointer (some ⟨bx, 0, none⟩), .pointer (some ⟨bi, 0, none⟩)]] w fun e w' => e = .returned (.bool (l.any P)) ∧ Below w.heap.size w w' := by
  have D := Lib.hid (indexH_calls P l v bx bi w hR C)
  obtain ⟨oa, cap, rfl⟩ := hR.val
  clear hR C
  go_enter Try.func33, Try.ntmps33
  go_wp2_with (go_at_call 51; refine D.out.mono ?_; rintro e w' ⟨n, rfl, hn, hb⟩)
  go_ret
  first | exact ⟨ret_bool hn, hb⟩ | exact ⟨rfl, hb⟩

set_option maxHeartbeats 2000000 in
theorem indexD_calls (P : Fr → Bool) (l : List Fr) (v : Value) (w : World) (hR : FrW w l v) (C : ∀ w', Below w.heap.size w w' → ∀ (k : Nat) (f : Fr) (u : Value), l[k]? = some f → TxW w' f.ids u → Calls Try.prog 39 #[frV f u] w' fun e w'' => e = .returned (.bool (P f)) ∧ Below w'.heap.size w' w'') :
    Calls Try.prog 51 #[v, .func (Fn.func 39) #[] #[]] w fun e w' => ∃ n : Int, e = .returned (.int .i64 n) ∧ decide (0 ≤ n) = l.any P ∧ Below w.heap.size w w' := by
  obtain ⟨U, oa, cap, b, o, rfl, hF⟩ := hR
  have h1 := hF.len
  have h2 := hF.max
  unfold maxLen at h2
  have HF := Lib.hid hF
  have HC := Lib.hid C
  clear hF C
  generalize hn : l.length = n at *
  have HN := Lib.hid hn
  clear hn
  go_enter Try.func51, Try.ntmps51
  go_wp2_with fail
  go_loopw [8] (fun i wr => AfRel P l n w i wr) (fun i _ => n - (intOf i).toNat)
  case atStart => exact ⟨0, Nat.zero_le _, rfl, by simp [Hid], Lib.hid (Below.refl _ _)⟩
  case round =>
    obtain ⟨k, hk, rfl, HS, HB⟩ := hrel
    by_cases hlt : k < n
    · obtain ⟨f, hf⟩ : ∃ f, l[k]? = some f := ⟨_, List.getElem?_eq_getElem (by rw [HN.out]; exact hlt)⟩
      obtain ⟨rfl, hb⟩ := HF.out.at0 (by rw [HN.out]; omega)
      have FL := HF.out.later HB.out (Nat.le_refl _)
      obtain ⟨c0, c1, c2, c3, c4, c5, c6, c7, c8⟩ := fc_cells (w := wr) (fun j u hu => FL.cell k f hf j u hu)
      have zb : b < wr.heap.size := Nat.lt_of_lt_of_le hb HB.out.size
      have CC := Lib.hid (HC.out wr HB.out k f (U k) hf (FL.ids k f hf))
      have HX := Lib.hid hf
      obtain ⟨ou, cu, hU⟩ := (HF.out.ids k f hf).val
      rw [hU] at c0 CC
      clear FL hf hU
      cases hs : P f
      · rw [hs] at CC
        have HY := Lib.hid (any_takeF HX.out HS.out hs)
        clear HS
        go_wp2_with (go_at_call 39; refine CC.out.mono ?_; rintro e w' ⟨rfl, hb'⟩)
        go_roundw
        case rel => exact ⟨k + 1, by omega, by go_num, HY, Lib.hid (HB.out.trans (hb'.mono HB.out.size))⟩
        case measure => simp [intOf]; omega
      · rw [hs] at CC
        have HY := Lib.hid (any_hitF HX.out hs)
        clear HS
        go_wp2_with (go_at_call 39; refine CC.out.mono ?_; rintro e w' ⟨rfl, hb'⟩)
        go_ret
        exact ⟨_, rfl, by rw [HY.out]; simp, HB.out.trans (hb'.mono HB.out.size)⟩
    · have h := HS.out
      rw [List.take_of_length_le (by rw [HN.out]; omega)] at h
      have HY := Lib.hid h
      clear h HS
      go_wp2_with fail
      go_ret
      exact ⟨_, rfl, by rw [HY.out]; simp, HB.out⟩
set_option maxHeartbeats 1000000 in
theorem containsD_calls (P : Fr → Bool) (l : List Fr) (v : Value) (w : World) (hR : FrW w l v) (C : ∀ w', Below w.heap.size w w' → ∀ (k : Nat) (f : Fr) (u : Value), l[k]? = some f → TxW w' f.ids u → Calls Try.prog 39 #[frV f u] w' fun e w'' => e = .returned (.bool (P f)) ∧ Below w'.heap.size w' w'') :
    Calls Try.prog 33 #[v, .func (Fn.func 39) #[] #[]] w fun e w' => e = .returned (.bool (l.any P)) ∧ Below w.heap.size w w' := by
  have D := Lib.hid (indexD_calls P l v w hR C)
  obtain ⟨oa, cap, rfl⟩ := hR.val
  clear hR C
  go_enter Try.func33, Try.ntmps33
  go_wp2_with (go_at_call 51; refine D.out.mono ?_; rintro e w' ⟨n, rfl, hn, hb⟩)
  go_ret
  first | exact ⟨ret_bool hn, hb⟩ | exact ⟨rfl, hb⟩

/-! ### The closures -/
set_option maxHeartbeats 1000000 in
theorem has1_calls (f : Fr) (u : Value) (r c : Int) (id : ByteArray) (bx bi : Nat) (w : World) (hT : TxW w f.ids u) (hx : Own w bx #[.int .i64 r, .int .i64 c] 28) (hi : Own w bi #[.string id] 9) :
    Calls Try.prog 34 #[frV f u, .pointer (some ⟨bx, 0, none⟩), .pointer (some ⟨bi, 0, none⟩)] w fun e w' => e = .returned (.bool (hasFr id r c f)) ∧ Below w.heap.size w w' := by
  obtain ⟨ou, cu, rfl⟩ := hT.val
  have B0 : Below w.heap.size w (w.alloc (.cells #[.slice ou f.ids.length cu, .int .i64 (f.v 0), .int .i64 (f.v 1), .int .i64 (f.v 2), .int .i64 (f.v 3), .int .i64 (f.v 4), .int .i64 (f.v 5), .int .i64 (f.v 6), .int .i64 (f.v 7)] 40)) := (Below.refl _ _).alloc (Nat.le_refl _) _
  have G1 := Lib.hid (Own.new w #[.slice ou f.ids.length cu, .int .i64 (f.v 0), .int .i64 (f.v 1), .int .i64 (f.v 2), .int .i64 (f.v 3), .int .i64 (f.v 4), .int .i64 (f.v 5), .int .i64 (f.v 6), .int .i64 (f.v 7)] 40)
  have lx := (hx.later B0).cell
  have zx := (hx.later B0).lt
  have l1 := G1.out.cell
  have z1 := G1.out.lt
  have CH := Lib.hid (vecHas_calls f.v r c (w.alloc (.cells #[.slice ou f.ids.length cu, .int .i64 (f.v 0), .int .i64 (f.v 1), .int .i64 (f.v 2), .int .i64 (f.v 3), .int .i64 (f.v 4), .int .i64 (f.v 5), .int .i64 (f.v 6), .int .i64 (f.v 7)] 40)))
  have HB0 := Lib.hid B0
  have HI := Lib.hid (hi.later B0)
  have HT := Lib.hid (hT.later B0 (Nat.le_refl _))
  have e : hasFr id r c f = (hasV f.v r c && amongB f.ids id) := by unfold hasFr; rw [Bool.and_comm]
  rw [e]
  clear e B0 hT hx hi
  cases hh : hasV f.v r c
  · rw [hh] at CH
    go_enter Try.func34, Try.ntmps34
    go_wp2_with (go_at_call 32; refine CH.out.mono ?_; rintro e w3 ⟨rfl, hb3⟩)
    go_ret
    exact ⟨rfl, HB0.out.trans (hb3.mono HB0.out.size)⟩
  · rw [hh] at CH
    rw [Bool.true_and]
    go_enter Try.func34, Try.ntmps34
    go_wp2_with (first
      | (go_at_call 32; refine CH.out.mono ?_; rintro e w3 ⟨rfl, hb3⟩; have l13 := (G1.out.later hb3).cell; have z13 := (G1.out.later hb3).lt; have li3 := (HI.out.later hb3).cell; have zi3 := (HI.out.later hb3).lt; have HT3 := Lib.hid (containsT_calls f.ids _ id w3 (HT.out.later hb3 (Nat.le_refl _))))
      | (go_at_call 35; refine HT3.out.mono ?_; rintro e w4 ⟨rfl, rfl⟩)
      | fail)
    go_ret
    exact ⟨rfl, HB0.out.trans (hb3.mono HB0.out.size)⟩
def oddB (f : Fr) : Bool := !mayV f.v || f.ids.any fun s => !nameB s
set_option maxHeartbeats 1000000 in
theorem odd_calls (f : Fr) (u : Value) (w : World) (hT : TxW w f.ids u) :
    Calls Try.prog 39 #[frV f u] w fun e w' => e = .returned (.bool (oddB f)) ∧ Below w.heap.size w w' := by
  obtain ⟨ou, cu, rfl⟩ := hT.val
  have B0 : Below w.heap.size w (w.alloc (.cells #[.slice ou f.ids.length cu, .int .i64 (f.v 0), .int .i64 (f.v 1), .int .i64 (f.v 2), .int .i64 (f.v 3), .int .i64 (f.v 4), .int .i64 (f.v 5), .int .i64 (f.v 6), .int .i64 (f.v 7)] 40)) := (Below.refl _ _).alloc (Nat.le_refl _) _
  have G1 := Lib.hid (Own.new w #[.slice ou f.ids.length cu, .int .i64 (f.v 0), .int .i64 (f.v 1), .int .i64 (f.v 2), .int .i64 (f.v 3), .int .i64 (f.v 4), .int .i64 (f.v 5), .int .i64 (f.v 6), .int .i64 (f.v 7)] 40)
  have l1 := G1.out.cell
  have z1 := G1.out.lt
  have CH := Lib.hid (vecMay_calls f.v (w.alloc (.cells #[.slice ou f.ids.length cu, .int .i64 (f.v 0), .int .i64 (f.v 1), .int .i64 (f.v 2), .int .i64 (f.v 3), .int .i64 (f.v 4), .int .i64 (f.v 5), .int .i64 (f.v 6), .int .i64 (f.v 7)] 40)))
  have HB0 := Lib.hid B0
  have HT := Lib.hid (hT.later B0 (Nat.le_refl _))
  unfold oddB
  clear B0 hT
  cases hh : mayV f.v
  · rw [hh] at CH
    go_enter Try.func39, Try.ntmps39
    go_wp2_with (go_at_call 38; refine CH.out.mono ?_; rintro e w3 ⟨rfl, hb3⟩)
    go_ret
    exact ⟨rfl, HB0.out.trans (hb3.mono HB0.out.size)⟩
  · rw [hh] at CH
    rw [Bool.not_true, Bool.false_or]
    go_enter Try.func39, Try.ntmps39
    go_wp2_with (first
      | (go_at_call 38; refine CH.out.mono ?_; rintro e w3 ⟨rfl, hb3⟩; have l13 := (G1.out.later hb3).cell; have z13 := (G1.out.later hb3).lt; have HT3 := Lib.hid (containsO_calls f.ids _ w3 (HT.out.later hb3 (Nat.le_refl _))))
      | (go_at_call 54; refine HT3.out.mono ?_; rintro e w4 ⟨rfl, rfl⟩)
      | fail)
    go_ret
    exact ⟨rfl, HB0.out.trans (hb3.mono HB0.out.size)⟩
set_option maxHeartbeats 2000000 in
theorem kequal1_calls (f g : Fr) (u t : Value) (w : World) (hT : TxW w f.ids u) (hM : TxW w g.ids t) :
    Calls Try.prog 58 #[frV f u, frV g t] w fun e w' => e = .returned (.bool (eqFr f g)) ∧ Below w.heap.size w w' := by
  obtain ⟨ou, cu, rfl⟩ := hT.val
  obtain ⟨ot, ct, rfl⟩ := hM.val
  have B0 : Below w.heap.size w ((w.alloc (.cells #[.slice ou f.ids.length cu, .int .i64 (f.v 0), .int .i64 (f.v 1), .int .i64 (f.v 2), .int .i64 (f.v 3), .int .i64 (f.v 4), .int .i64 (f.v 5), .int .i64 (f.v 6), .int .i64 (f.v 7)] 40)).alloc (.cells #[.slice ot g.ids.length ct, .int .i64 (g.v 0), .int .i64 (g.v 1), .int .i64 (g.v 2), .int .i64 (g.v 3), .int .i64 (g.v 4), .int .i64 (g.v 5), .int .i64 (g.v 6), .int .i64 (g.v 7)] 40)) := ((Below.refl _ _).alloc (Nat.le_refl _) _).alloc (by simp) _
  have G1 := Lib.hid ((Own.new w #[.slice ou f.ids.length cu, .int .i64 (f.v 0), .int .i64 (f.v 1), .int .i64 (f.v 2), .int .i64 (f.v 3), .int .i64 (f.v 4), .int .i64 (f.v 5), .int .i64 (f.v 6), .int .i64 (f.v 7)] 40).alloc (.cells #[.slice ot g.ids.length ct, .int .i64 (g.v 0), .int .i64 (g.v 1), .int .i64 (g.v 2), .int .i64 (g.v 3), .int .i64 (g.v 4), .int .i64 (g.v 5), .int .i64 (g.v 6), .int .i64 (g.v 7)] 40))
  have G2 := Lib.hid (Own.newAt (w.alloc (.cells #[.slice ou f.ids.length cu, .int .i64 (f.v 0), .int .i64 (f.v 1), .int .i64 (f.v 2), .int .i64 (f.v 3), .int .i64 (f.v 4), .int .i64 (f.v 5), .int .i64 (f.v 6), .int .i64 (f.v 7)] 40)) #[.slice ot g.ids.length ct, .int .i64 (g.v 0), .int .i64 (g.v 1), .int .i64 (g.v 2), .int .i64 (g.v 3), .int .i64 (g.v 4), .int .i64 (g.v 5), .int .i64 (g.v 6), .int .i64 (g.v 7)] 40 (b := w.heap.size + 1) (by simp))
  have l1 := G1.out.cell
  have z1 := G1.out.lt
  have l2 := G2.out.cell
  have z2 := G2.out.lt
  have HB0 := Lib.hid B0
  have CE := Lib.hid (equalT_calls f.ids g.ids _ _ _ (hT.later B0 (Nat.le_refl _)) (hM.later B0 (Nat.le_refl _)))
  have hq := fun w' => show (Op.equalIn 10000 23 (.agg #[.int .i64 (f.v 0), .int .i64 (f.v 1), .int .i64 (f.v 2), .int .i64 (f.v 3), .int .i64 (f.v 4), .int .i64 (f.v 5), .int .i64 (f.v 6), .int .i64 (f.v 7)]) (.agg #[.int .i64 (g.v 0), .int .i64 (g.v 1), .int .i64 (g.v 2), .int .i64 (g.v 3), .int .i64 (g.v 4), .int .i64 (g.v 5), .int .i64 (g.v 6), .int .i64 (g.v 7)])).run Try.prog w' = .ok (eqV f.v g.v) w' from eqVec7 f.v g.v w'
  unfold eqFr
  clear B0 hT hM
  cases hh : eqV f.v g.v
  · rw [hh] at hq
    go_enter Try.func58, Try.ntmps58
    go_wp2_with fail
    go_ret
    exact ⟨rfl, HB0.out⟩
  · rw [hh] at hq
    rw [Bool.true_and]
    go_enter Try.func58, Try.ntmps58
    go_wp2_with (go_at_call 59; refine CE.out.mono ?_; rintro e w3 ⟨rfl, hb3⟩)
    go_ret
    exact ⟨rfl, HB0.out.trans (hb3.mono HB0.out.size)⟩

/-! ### Two lists of pieces, alike -/
theorem keqFrs_all : ∀ {l m : List Fr}, l.length = m.length → (∀ (j : Nat) (f g : Fr), l[j]? = some f → m[j]? = some g → eqFr f g = true) → eqFrs l m = true
  | [], [], _, _ => rfl
  | [], b :: m, h, _ => by simp at h
  | a :: l, [], h, _ => by simp at h
  | a :: l, b :: m, h, hh => by
    rw [eqFrs, hh 0 a b rfl rfl, Bool.true_and]
    exact keqFrs_all (by simpa using h) fun j f g hf hg => hh (j + 1) f g (by simpa using hf) (by simpa using hg)
theorem keqFrs_no : ∀ {l m : List Fr} {j : Nat} {f g : Fr}, l[j]? = some f → m[j]? = some g → eqFr f g = false → eqFrs l m = false
  | [], m, j, f, g, h, _, _ => by simp at h
  | a :: l, [], j, f, g, _, h, _ => by simp at h
  | a :: l, b :: m, 0, f, g, h, h', hq => by
    simp at h h'; subst h h'
    rw [eqFrs, hq, Bool.false_and]
  | a :: l, b :: m, j + 1, f, g, h, h', hq => by
    rw [eqFrs, keqFrs_no (l := l) (m := m) (by simpa using h) (by simpa using h') hq, Bool.and_false]
theorem keqFrs_len : ∀ {l m : List Fr}, l.length ≠ m.length → eqFrs l m = false
  | [], [], h => by simp at h
  | [], b :: m, _ => by simp [eqFrs]
  | a :: l, [], _ => by simp [eqFrs]
  | a :: l, b :: m, h => by rw [eqFrs, keqFrs_len (l := l) (m := m) (by simpa using h), Bool.and_false]
def EfRel (l m : List Fr) (n : Nat) (w0 : World) (i : Value) (wr : World) : Prop := ∃ k : Nat, k ≤ n ∧ i = .int .i64 k ∧ Hid (∀ (j : Nat) (f g : Fr), j < k → l[j]? = some f → m[j]? = some g → eqFr f g = true) ∧ Hid (Below w0.heap.size w0 wr)
set_option maxRecDepth 100000 in
set_option maxHeartbeats 4000000 in
theorem equalF_calls (l m : List Fr) (v v' : Value) (w : World) (hR : FrW w l v) (hM : FrW w m v') :
    Calls Try.prog 57 #[v, v', .func (Fn.func 58) #[] #[]] w fun e w' => e = .returned (.bool (eqFrs l m)) ∧ Below w.heap.size w w' := by
  obtain ⟨U, oa, cap, b, o, rfl, hT⟩ := hR
  obtain ⟨V, oa', cap', b', o', rfl, hM⟩ := hM
  have h1 := hT.len
  have h2 := hT.max
  have h1' := hM.len
  have h2' := hM.max
  unfold maxLen at h2 h2'
  have HT := Lib.hid hT
  have HM := Lib.hid hM
  clear hT hM
  by_cases hl : l.length = m.length
  · rw [← hl] at h1' ⊢
    have HL := Lib.hid hl
    clear hl
    have hne : ((l.length : Int) == (l.length : Int)) = true := by simp
    generalize hn : l.length = n at *
    have HN := Lib.hid hn
    clear hn
    go_enter Try.func57, Try.ntmps57
    go_wp2_with fail
    go_loopw [17] (fun i wr => EfRel l m n w i wr) (fun i _ => n - (intOf i).toNat)
    case atStart => exact ⟨0, Nat.zero_le _, rfl, Lib.hid fun j f g hj => absurd hj (by omega), Lib.hid (Below.refl _ _)⟩
    case round =>
      obtain ⟨k, hk, rfl, HS, HB⟩ := hrel
      by_cases hlt : k < n
      · obtain ⟨f, hf⟩ : ∃ f, l[k]? = some f := ⟨_, List.getElem?_eq_getElem (by rw [HN.out]; exact hlt)⟩
        obtain ⟨g, hg⟩ : ∃ g, m[k]? = some g := ⟨_, List.getElem?_eq_getElem (by rw [← HL.out]; exact hlt)⟩
        obtain ⟨rfl, hb⟩ := HT.out.at0 (by rw [HN.out]; omega)
        obtain ⟨rfl, hb'⟩ := HM.out.at0 (by rw [← HL.out]; omega)
        have FL := HT.out.later HB.out (Nat.le_refl _)
        obtain ⟨c0, c1, c2, c3, c4, c5, c6, c7, c8⟩ := fc_cells (w := wr) (fun j u hu => FL.cell k f hf j u hu)
        have GL := HM.out.later HB.out (Nat.le_refl _)
        obtain ⟨d0, d1, d2, d3, d4, d5, d6, d7, d8⟩ := fc_cells (w := wr) (fun j u hu => GL.cell k g hg j u hu)
        have z0 : b < wr.heap.size := Nat.lt_of_lt_of_le hb HB.out.size
        have z1 : b' < wr.heap.size := Nat.lt_of_lt_of_le hb' HB.out.size
        have HX := Lib.hid hf
        have HY := Lib.hid hg
        obtain ⟨ou, cu, hU⟩ := (HT.out.ids k f hf).val
        obtain ⟨ot, ct, hV⟩ := (HM.out.ids k g hg).val
        have TU := FL.ids k f hf
        have TV := GL.ids k g hg
        rw [hU] at c0 TU
        rw [hV] at d0 TV
        have B2 : Below wr.heap.size wr ((wr.alloc (.cells #[.slice ou f.ids.length cu, .int .i64 (f.v 0), .int .i64 (f.v 1), .int .i64 (f.v 2), .int .i64 (f.v 3), .int .i64 (f.v 4), .int .i64 (f.v 5), .int .i64 (f.v 6), .int .i64 (f.v 7)] 40)).alloc (.cells #[.slice ot g.ids.length ct, .int .i64 (g.v 0), .int .i64 (g.v 1), .int .i64 (g.v 2), .int .i64 (g.v 3), .int .i64 (g.v 4), .int .i64 (g.v 5), .int .i64 (g.v 6), .int .i64 (g.v 7)] 40)) := ((Below.refl _ _).alloc (Nat.le_refl _) _).alloc (by simp) _
        have CC := Lib.hid (kequal1_calls f g _ _ _ (TU.later B2 (Nat.le_refl _)) (TV.later B2 (Nat.le_refl _)))
        have HB2 := Lib.hid (HB.out.trans (B2.mono HB.out.size))
        have k0 : (0 : Int) ≤ (k : Int) := by omega
        have k1 : (k : Int) < (n : Int) := by omega
        clear FL GL hf hg hU hV TU TV B2 hb hb'
        cases hs : eqFr f g
        · rw [hs] at CC
          have HF := Lib.hid (keqFrs_no HX.out HY.out hs)
          go_wp2_with (go_at_call 58; refine CC.out.mono ?_; rintro e w' ⟨rfl, hb'⟩)
          go_ret
          exact ⟨ret_bool HF.out.symm, HB2.out.trans (hb'.mono HB2.out.size)⟩
        · rw [hs] at CC
          have HF := Lib.hid (show ∀ (j : Nat) (p q : Fr), j < k + 1 → l[j]? = some p → m[j]? = some q → eqFr p q = true from fun j p q hj hp hq => by
            by_cases e : j = k
            · subst e; rw [HX.out] at hp; rw [HY.out] at hq; cases hp; cases hq; exact hs
            · exact HS.out j p q (by omega) hp hq)
          go_wp2_with (go_at_call 58; refine CC.out.mono ?_; rintro e w' ⟨rfl, hb'⟩)
          go_roundw
          case rel => exact ⟨k + 1, by omega, by go_num, HF, Lib.hid (HB2.out.trans (hb'.mono HB2.out.size))⟩
          case measure => simp [intOf]; omega
      · have HF := Lib.hid (keqFrs_all (l := l) (m := m) (by rw [HN.out]; exact HL.out) fun j f g hf hg => HS.out j f g (by have := posA hf; rw [HN.out] at this; omega) hf hg)
        go_wp2_with fail
        go_ret
        exact ⟨ret_bool HF.out.symm, HB.out⟩
  · have HF := Lib.hid (keqFrs_len hl)
    have hne : ((l.length : Int) == (m.length : Int)) = false := by simp; omega
    clear hl
    go_enter Try.func57, Try.ntmps57
    go_wp2_with fail
    go_ret
    exact ⟨ret_bool HF.out.symm, Below.refl _ _⟩

/-! ### equal -/
set_option maxHeartbeats 2000000 in
theorem kEqual_calls (a c : Kn) (v v' : Value) (w : World) (hR : FrW w a.l v) (hM : FrW w c.l v') :
    Calls Try.prog 40 #[knV a.star v, knV c.star v'] w fun e w' => e = .returned (.bool (alikeK a c)) ∧ Below w.heap.size w w' := by
  obtain ⟨ou, cu, rfl⟩ := hR.val
  obtain ⟨ot, ct, rfl⟩ := hM.val
  unfold alikeK
  obtain ⟨A, l⟩ := a
  obtain ⟨B, m⟩ := c
  simp only at *
  have B0 : Below w.heap.size w ((w.alloc (.cells (knA A (.slice ou l.length cu)) 26)).alloc (.cells (knA B (.slice ot m.length ct)) 26)) := ((Below.refl _ _).alloc (Nat.le_refl _) _).alloc (by simp) _
  have G1 := Lib.hid ((Own.new w (knA A (.slice ou l.length cu)) 26).alloc (.cells (knA B (.slice ot m.length ct)) 26))
  have G2 := Lib.hid (Own.newAt (w.alloc (.cells (knA A (.slice ou l.length cu)) 26)) (knA B (.slice ot m.length ct)) 26 (b := w.heap.size + 1) (by simp))
  have l1 := G1.out.cell
  have z1 := G1.out.lt
  have l2 := G2.out.cell
  have z2 := G2.out.lt
  have HB0 := Lib.hid B0
  have CE := Lib.hid (equalF_calls l m _ _ _ (hR.later B0 (Nat.le_refl _)) (hM.later B0 (Nat.le_refl _)))
  have hq := fun w' => show (Op.equalIn 10000 23 (.agg #[.int .i64 (A 0), .int .i64 (A 1), .int .i64 (A 2), .int .i64 (A 3), .int .i64 (A 4), .int .i64 (A 5), .int .i64 (A 6), .int .i64 (A 7)]) (.agg #[.int .i64 (B 0), .int .i64 (B 1), .int .i64 (B 2), .int .i64 (B 3), .int .i64 (B 4), .int .i64 (B 5), .int .i64 (B 6), .int .i64 (B 7)])).run Try.prog w' = .ok (eqV A B) w' from eqVec7 A B w'
  clear B0 hR hM
  cases hh : eqV A B
  · rw [hh] at hq
    go_enter Try.func40, Try.ntmps40
    go_wp2_with fail
    go_ret
    exact ⟨rfl, HB0.out⟩
  · rw [hh] at hq
    rw [Bool.true_and]
    go_enter Try.func40, Try.ntmps40
    go_wp2_with (go_at_call 57; refine CE.out.mono ?_; rintro e w3 ⟨rfl, hb3⟩)
    go_ret
    exact ⟨rfl, HB0.out.trans (hb3.mono HB0.out.size)⟩

end Go.Proofs.Ythhbjgecdhogoaa
