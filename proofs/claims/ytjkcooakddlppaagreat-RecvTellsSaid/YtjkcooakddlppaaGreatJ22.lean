/- Joined: KText, KGreat, LPut. -/
import Derived.Test.YtjkcooakddlppaaGreatJ04
import Derived.Test.YtjkcooakddlppaaGreatJ05
import Derived.Test.YtjkcooakddlppaaGreatJ03
import Derived.Test.YtjkcooakddlppaaGreatJ19
import Derived.Test.YtjkcooakddlppaaGreatJ20
import Derived.Test.YtjkcooakddlppaaGreatJ07
import Derived.Test.YtjkcooakddlppaaGreatJ06
import Derived.StillTailTactics
import Derived.Test.YtjkcooakddlppaaGreatJ21
import Derived.Test.YtjkcooakddlppaaGreatJ10
import Derived.Deep.RegionLaw
import Derived.Deep.RegionHeld3
import Derived.Test.YtjkcooakddlppaaGreatJ60
/- Texts in lists: slices.Index, Contains, Equal of texts; slices.ContainsFunc over odd's closure. Walked. -/
namespace Go.Proofs.YtjkcooakddlppaaGreat
set_option linter.unusedVariables false
set_option linter.unusedSimpArgs false
set_option maxRecDepth 100000
open Go.RowKit
theorem among_take_step {l : List ByteArray} {k : Nat} {s x : ByteArray} (hx : l[k]? = some x) (h : amongB (l.take k) s = false) (hs : (s.toList == x.toList) = false) : amongB (l.take (k + 1)) s = false := by
  rw [takeT hx]
  unfold amongB at *
  rw [List.any_append, h]
  simp only [List.any_cons, List.any_nil, Bool.or_false, Bool.false_or]
  rw [tl_ne] at hs ⊢
  exact fun e => hs e.symm
theorem among_take_hit {l : List ByteArray} {k : Nat} {s x : ByteArray} (hx : l[k]? = some x) (hs : (s.toList == x.toList) = true) : amongB l s = true := by
  rw [tl_eq] at hs; subst hs
  exact among_iff.2 (List.mem_of_getElem? hx)
def KIdxRel (l : List ByteArray) (s : ByteArray) (n : Nat) (w0 : World) (i : Value) (wr : World) : Prop := ∃ k : Nat, k ≤ n ∧ i = .int .i64 k ∧ Hid (amongB (l.take k) s = false) ∧ Hid (w0 = wr)
set_option maxHeartbeats 2000000 in
theorem indexT_calls (l : List ByteArray) (v : Value) (s : ByteArray) (w : World) (hT : TxW w l v) :
    Calls Tryz.prog 125 #[v, .string s] w fun e w' => ∃ n : Int, e = .returned (.int .i64 n) ∧ decide (0 ≤ n) = amongB l s ∧ w' = w := by
  obtain ⟨oa, cap, b, o, rfl, hT⟩ := hT
  have h1 := hT.len
  have h2 := hT.max
  unfold maxLen at h2
  have HT := Lib.hid hT
  clear hT
  generalize hn : l.length = n at *
  have HN := Lib.hid hn
  clear hn
  go_enter Tryz.func125, Tryz.ntmps125
  go_wp2_with fail
  go_loopw [8] (fun i wr => KIdxRel l s n w i wr) (fun i _ => n - (intOf i).toNat)
  case atStart => exact ⟨0, Nat.zero_le _, rfl, by simp [Hid, amongB], rfl⟩
  case round =>
    obtain ⟨k, hk, rfl, HS, hw⟩ := hrel
    have ew := hw.out
    subst ew
    clear hw
    by_cases hlt : k < n
    · obtain ⟨x, hx⟩ : ∃ x, l[k]? = some x := ⟨_, List.getElem?_eq_getElem (by rw [HN.out]; exact hlt)⟩
      obtain ⟨rfl, hb⟩ := HT.out.at0 (by rw [HN.out]; omega)
      have c0 := HT.out.cell k x hx
      cases hs : (s.toList == x.toList)
      · have HF := Lib.hid (among_take_step hx HS.out hs)
        clear HS
        go_wp2_with fail
        go_roundw
        case rel => exact ⟨k + 1, by omega, by go_num, HF, rfl⟩
        case measure => simp [intOf]; omega
      · have HF := Lib.hid (among_take_hit hx hs)
        clear HS
        go_wp2_with fail
        go_ret
        exact ⟨_, rfl, by rw [HF.out]; simp, rfl⟩
    · have h := HS.out
      rw [List.take_of_length_le (by rw [HN.out]; omega)] at h
      have HF := Lib.hid h
      clear h HS
      go_wp2_with fail
      go_ret
      exact ⟨_, rfl, by rw [HF.out]; simp, rfl⟩
set_option maxHeartbeats 1000000 in
theorem containsT_calls (l : List ByteArray) (v : Value) (s : ByteArray) (w : World) (hT : TxW w l v) :
    Calls Tryz.prog 74 #[v, .string s] w fun e w' => e = .returned (.bool (amongB l s)) ∧ w' = w := by
  have C := Lib.hid (indexT_calls l v s w hT)
  obtain ⟨oa, cap, rfl⟩ := hT.val
  clear hT
  go_enter Tryz.func74, Tryz.ntmps74
  go_wp2_with (go_at_call 125; refine C.out.mono ?_; rintro e w' ⟨n, rfl, hn, rfl⟩)
  go_ret
  first | exact ⟨ret_bool hn, rfl⟩ | exact ⟨rfl, rfl⟩
/-! ### Two lists of texts, alike -/
def KEqRel (l m : List ByteArray) (n : Nat) (w0 : World) (i : Value) (wr : World) : Prop := ∃ k : Nat, k ≤ n ∧ i = .int .i64 k ∧ Hid (∀ j, j < k → l[j]? = m[j]?) ∧ Hid (Below w0.heap.size w0 wr)
theorem keqIds_iff : ∀ {l m : List ByteArray}, eqIds l m = true ↔ l = m
  | [], [] => by simp [eqIds]
  | [], b :: m => by simp [eqIds]
  | a :: l, [] => by simp [eqIds]
  | a :: l, b :: m => by
    have := keqIds_iff (l := l) (m := m)
    simp only [eqIds, Bool.and_eq_true, List.cons.injEq]
    rw [this]
    constructor
    · rintro ⟨h1, h2⟩; exact ⟨by first | exact tl_eq.1 h1 | simpa using h1, h2⟩
    · rintro ⟨h1, h2⟩; subst h1; exact ⟨by simp, h2⟩
theorem keqIds_no {l m : List ByteArray} (h : l ≠ m) : eqIds l m = false := by
  cases e : eqIds l m with
  | false => rfl
  | true => exact absurd (keqIds_iff.1 e) h
set_option maxHeartbeats 2000000 in
theorem equalT_calls (l m : List ByteArray) (v v' : Value) (w : World) (hT : TxW w l v) (hM : TxW w m v') :
    Calls Tryz.prog 160 #[v, v'] w fun e w' => e = .returned (.bool (eqIds l m)) ∧ Below w.heap.size w w' := by
  obtain ⟨oa, cap, b, o, rfl, hT⟩ := hT
  obtain ⟨oa', cap', b', o', rfl, hM⟩ := hM
  have h1 := hT.len
  have h2 := hT.max
  have h1' := hM.len
  have h2' := hM.max
  unfold maxLen at h2 h2'
  have HT := Lib.hid hT
  have HM := Lib.hid hM
  clear hT hM
  by_cases hl : l.length = m.length
  · rw [← hl] at h1' ⊢
    have HL := Lib.hid hl
    clear hl
    have hne : ((l.length : Int) == (l.length : Int)) = true := by simp
    generalize hn : l.length = n at *
    have HN := Lib.hid hn
    clear hn
    go_enter Tryz.func160, Tryz.ntmps160
    go_wp2_with fail
    go_loopw [13] (fun i wr => KEqRel l m n w i wr) (fun i _ => n - (intOf i).toNat)
    case atStart => exact ⟨0, Nat.zero_le _, rfl, Lib.hid fun j hj => absurd hj (by omega), Lib.hid (Below.refl _ _)⟩
    case round =>
      obtain ⟨k, hk, rfl, HS, HB⟩ := hrel
      by_cases hlt : k < n
      · obtain ⟨x, hx⟩ : ∃ x, l[k]? = some x := ⟨_, List.getElem?_eq_getElem (by rw [HN.out]; exact hlt)⟩
        obtain ⟨y, hy⟩ : ∃ y, m[k]? = some y := ⟨_, List.getElem?_eq_getElem (by rw [← HL.out]; exact hlt)⟩
        obtain ⟨rfl, hb⟩ := HT.out.at0 (by rw [HN.out]; omega)
        obtain ⟨rfl, hb'⟩ := HM.out.at0 (by rw [← HL.out]; omega)
        have c0 := (HT.out.later HB.out (Nat.le_refl _)).cell k x hx
        have c1 := (HM.out.later HB.out (Nat.le_refl _)).cell k y hy
        have r0 := fun dd os => cell_regrown c0 dd os
        have r1 := fun dd os => cell_regrown c1 dd os
        have z0 : b < wr.heap.size := Nat.lt_of_lt_of_le hb HB.out.size
        have z1 : b' < wr.heap.size := Nat.lt_of_lt_of_le hb' HB.out.size
        have HX := Lib.hid hx
        have HY := Lib.hid hy
        have k0 : (0 : Int) ≤ (k : Int) := by omega
        have k1 : (k : Int) < (n : Int) := by omega
        clear c0 c1 hx hy hb hb'
        cases hs : (x.toList == y.toList)
        · have HF := Lib.hid (show eqIds l m = false from keqIds_no (fun e => by
            have h1 := HX.out
            rw [e, HY.out] at h1
            cases h1; simp at hs))
          go_wp2_with fail
          refine wp_region_quiet_below (by kernel_rfl) (by kernel_rfl) ?_
          repeat (first | go_big_quiet_step (fail) | quiet_step (fail))
          refine wpQuiet_nil ?_
          intro w7 hw'
          have hb7 := Lib.hid (regrown_below hw')
          clear hw' r0 r1
          go_wp2_with fail
          go_ret
          exact ⟨ret_bool HF.out.symm, HB.out.trans (hb7.out.mono HB.out.size)⟩
        · have HF := Lib.hid (show ∀ j, j < k + 1 → l[j]? = m[j]? from fun j hj => by
            by_cases e : j = k
            · subst e; rw [HX.out, HY.out, tl_eq.1 hs]
            · exact HS.out j (by omega))
          go_wp2_with fail
          refine wp_region_quiet_below (by kernel_rfl) (by kernel_rfl) ?_
          repeat (first | go_big_quiet_step (fail) | quiet_step (fail))
          refine wpQuiet_nil ?_
          intro w7 hw'
          have hb7 := Lib.hid (regrown_below hw')
          clear hw' r0 r1
          go_wp2_with fail
          go_roundw
          case rel => exact ⟨k + 1, by omega, by go_num, HF, Lib.hid (HB.out.trans (hb7.out.mono HB.out.size))⟩
          case measure => simp [intOf]; omega
      · have HF := Lib.hid (show eqIds l m = true from keqIds_iff.2 (List.ext_getElem? fun j => by
          by_cases hj : j < k
          · exact HS.out j hj
          · rw [List.getElem?_eq_none (by rw [HN.out]; omega), List.getElem?_eq_none (by rw [← HL.out]; omega)]))
        go_wp2_with fail
        go_ret
        exact ⟨ret_bool HF.out.symm, HB.out⟩
  · have HF := Lib.hid (keqIds_no (l := l) (m := m) (fun e => hl (by rw [e])))
    have hne : ((l.length : Int) == (m.length : Int)) = false := by simp; omega
    clear hl
    go_enter Tryz.func160, Tryz.ntmps160
    go_wp2_with fail
    go_ret
    exact ⟨ret_bool HF.out.symm, Below.refl _ _⟩
/-! ### A text that may be no Id -/
def OxRel (l : List ByteArray) (n : Nat) (w0 : World) (i : Value) (wr : World) : Prop := ∃ k : Nat, k ≤ n ∧ i = .int .i64 k ∧ Hid ((l.take k).any (fun s => !nameB s) = false) ∧ Hid (w0 = wr)
set_option maxHeartbeats 1000000 in
theorem odd1_calls (s : ByteArray) (w : World) :
    Calls Tryz.prog 157 #[.string s] w fun e w' => e = .returned (.bool (!nameB s)) ∧ w' = w := by
  have H := Lib.hid (name_calls s w)
  generalize nameB s = r at *
  go_enter Tryz.func157, Tryz.ntmps157
  go_wp2_with (go_at_call 111; refine (H.out).mono ?_; rintro e w' ⟨rfl, rfl⟩)
  go_ret
  exact ⟨rfl, rfl⟩
set_option maxHeartbeats 2000000 in
theorem indexO_calls (l : List ByteArray) (v : Value) (w : World) (hT : TxW w l v) :
    Calls Tryz.prog 175 #[v, .func (Fn.func 157) #[] #[]] w fun e w' => ∃ n : Int, e = .returned (.int .i64 n) ∧ decide (0 ≤ n) = (l.any fun s => !nameB s) ∧ w' = w := by
  obtain ⟨oa, cap, b, o, rfl, hT⟩ := hT
  have h1 := hT.len
  have h2 := hT.max
  unfold maxLen at h2
  have HT := Lib.hid hT
  clear hT
  generalize hn : l.length = n at *
  have HN := Lib.hid hn
  clear hn
  go_enter Tryz.func175, Tryz.ntmps175
  go_wp2_with fail
  go_loopw [8] (fun i wr => OxRel l n w i wr) (fun i _ => n - (intOf i).toNat)
  case atStart => exact ⟨0, Nat.zero_le _, rfl, by simp [Hid], rfl⟩
  case round =>
    obtain ⟨k, hk, rfl, HS, hw⟩ := hrel
    have ew := hw.out
    subst ew
    clear hw
    by_cases hlt : k < n
    · obtain ⟨x, hx⟩ : ∃ x, l[k]? = some x := ⟨_, List.getElem?_eq_getElem (by rw [HN.out]; exact hlt)⟩
      obtain ⟨rfl, hb⟩ := HT.out.at0 (by rw [HN.out]; omega)
      have c0 := HT.out.cell k x hx
      have C := Lib.hid (odd1_calls x w)
      have HX := Lib.hid hx
      clear hx
      cases hs : nameB x
      · rw [hs] at C
        have HF := Lib.hid (show (l.any fun s => !nameB s) = true from List.any_eq_true.2 ⟨x, List.mem_of_getElem? HX.out, by rw [hs]; rfl⟩)
        clear HS
        go_wp2_with (go_at_call 157; refine C.out.mono ?_; rintro e w' ⟨rfl, rfl⟩)
        go_ret
        exact ⟨_, rfl, by rw [HF.out]; simp, rfl⟩
      · rw [hs] at C
        have HF := Lib.hid (show ((l.take (k + 1)).any fun s => !nameB s) = false by rw [takeT HX.out, List.any_append, HS.out]; simp [hs])
        clear HS
        go_wp2_with (go_at_call 157; refine C.out.mono ?_; rintro e w' ⟨rfl, rfl⟩)
        go_roundw
        case rel => exact ⟨k + 1, by omega, by go_num, HF, rfl⟩
        case measure => simp [intOf]; omega
    · have h := HS.out
      rw [List.take_of_length_le (by rw [HN.out]; omega)] at h
      have HF := Lib.hid h
      clear h HS
      go_wp2_with fail
      go_ret
      exact ⟨_, rfl, by rw [HF.out]; simp, rfl⟩
set_option maxHeartbeats 1000000 in
theorem containsO_calls (l : List ByteArray) (v : Value) (w : World) (hT : TxW w l v) :
    Calls Tryz.prog 156 #[v, .func (Fn.func 157) #[] #[]] w fun e w' => e = .returned (.bool (l.any fun s => !nameB s)) ∧ w' = w := by
  have C := Lib.hid (indexO_calls l v w hT)
  obtain ⟨oa, cap, rfl⟩ := hT.val
  clear hT
  go_enter Tryz.func156, Tryz.ntmps156
  go_wp2_with (go_at_call 175; refine C.out.mono ?_; rintro e w' ⟨n, rfl, hn, rfl⟩)
  go_ret
  first | exact ⟨ret_bool hn, rfl⟩ | exact ⟨rfl, rfl⟩
end Go.Proofs.YtjkcooakddlppaaGreat
/- Of each Id the greatest counts: the code's own, walked. -/
namespace Go.Proofs.YtjkcooakddlppaaGreat
set_option linter.unusedVariables false
set_option linter.unusedSimpArgs false
set_option maxRecDepth 100000
open Go.RowKit Go.Maps
def rawJ (l : List Fr) (f : Fr) (j : Nat) (s : ByteArray) : Nat → Int := if amongB (f.ids.take j) s = true then maxV (rawF l s) f.v else rawF l s
theorem rawJ_zero (l : List Fr) (f : Fr) : rawJ l f 0 = rawF l := by
  funext s; simp [rawJ, amongB]
theorem rawJ_all (l : List Fr) {f : Fr} {k : Nat} (hf : l[k]? = some f) : rawJ (l.take k) f f.ids.length = rawF (l.take (k + 1)) := by
  funext s
  rw [takeT hf]
  simp [rawJ, rawF, List.foldl_append, rawStep]
theorem max_again (A B : Nat → Int) : maxV (maxV A B) B = maxV A B := funext fun j => max_more A B j
theorem rawJ_step (l : List Fr) (f : Fr) {j : Nat} {s : ByteArray} (hs : f.ids[j]? = some s) : (fun x => if x = s then maxV (rawJ l f j s) f.v else rawJ l f j x) = rawJ l f (j + 1) := by
  funext x
  unfold rawJ
  rw [takeT hs]
  by_cases e : x = s
  · subst e
    have h1 : amongB (f.ids.take j ++ [x]) x = true := among_iff.2 (by simp)
    rw [if_pos rfl, h1, if_pos rfl]
    split
    · exact max_again _ _
    · rfl
  · rw [if_neg e]
    have h1 : amongB (f.ids.take j ++ [s]) x = amongB (f.ids.take j) x := by
      cases h : amongB (f.ids.take j) x with
      | true => exact among_iff.2 (by simp [among_iff.1 h])
      | false =>
        cases h' : amongB (f.ids.take j ++ [s]) x with
        | false => rfl
        | true =>
          have := among_iff.1 h'
          simp [e] at this
          rw [among_iff.2 this] at h; cases h
    rw [h1]
theorem gflat_take {l : List Fr} {k : Nat} {f : Fr} (hf : l[k]? = some f) : flatI (l.take (k + 1)) = flatI (l.take k) ++ f.ids := by
  rw [takeT hf]; simp [flatI]
theorem gflat_len {l : List Fr} {k : Nat} : (flatI (l.take k)).length ≤ (flatI l).length := by
  unfold flatI
  conv => rhs; rw [← List.take_append_drop k l]
  rw [List.flatMap_append, List.length_append]; omega
def GrRel (l : List Fr) (n : Nat) (w0 : World) (i : Value) (wr : World) : Prop :=
  ∃ k : Nat, k ≤ n ∧ i = .int .i64 k ∧ Hid (Cnt wr w0.heap.size (flatI (l.take k)).length (flatI (l.take k)) (rawF (l.take k))) ∧ Hid (Below w0.heap.size w0 wr)
def GjRel (lk : List Fr) (f : Fr) (n : Nat) (w0 : World) (X : Array Value) (bf : Nat) (i : Value) (wr : World) : Prop :=
  ∃ j : Nat, j ≤ n ∧ i = .int .i64 j ∧ Hid (Cnt wr w0.heap.size ((flatI lk).length + j) (flatI lk ++ f.ids.take j) (rawJ lk f j)) ∧ Hid (Own wr bf X 115) ∧ Hid (Below w0.heap.size w0 wr)
set_option maxRecDepth 100000 in
set_option maxHeartbeats 4000000 in
theorem greatest_calls (l : List Fr) (v : Value) (w : World) (hR : FrW w l v) (hlen : (flatI l).length ≤ 10000) :
    Calls Tryz.prog 145 #[v] w fun e w' => e = .returned (.map (some w.heap.size)) ∧ Cnt w' w.heap.size (flatI l).length (flatI l) (rawF l) ∧ Below w.heap.size w w' := by
  obtain ⟨U, oa, cap, bl, o, rfl, hF⟩ := hR
  have hc1 := hF.len
  have hc2 := hF.max
  unfold maxLen at hc2
  have HF := Lib.hid hF
  clear hF
  have hmm := @run_makeMap Tryz.prog
  have I0 : GrRel l l.length w (.int .i64 0) (w.alloc (.map #[] 0)) := ⟨0, Nat.zero_le _, rfl, by rw [List.take_zero]; exact Lib.hid (Cnt.made w), Lib.hid ((Below.refl _ _).alloc (Nat.le_refl _) _)⟩
  have HI := Lib.hid I0
  clear I0
  generalize hn : l.length = n at *
  have HN := Lib.hid hn
  clear hn
  go_enter Tryz.func145, Tryz.ntmps145
  go_wp2_with fail
  go_loopw [11] (fun i wr => GrRel l n w i wr) (fun i _ => n - (intOf i).toNat)
  case atStart => exact HI.out
  case round =>
    clear HI
    obtain ⟨k, hk, rfl, HC, HB⟩ := hrel
    by_cases hlt : k < n
    · obtain ⟨f, hf⟩ : ∃ f, l[k]? = some f := ⟨_, List.getElem?_eq_getElem (by rw [HN.out]; exact hlt)⟩
      have hat := HF.out.at0 (by rw [HN.out]; omega)
      obtain ⟨rfl, hbl⟩ := hat
      have FL := HF.out.later HB.out (Nat.le_refl _)
      obtain ⟨c0, c1, c2, c3, c4, c5, c6, c7, c8⟩ := fc_cells (w := wr) (fun j u hu => FL.cell k f hf j u hu)
      have zl : bl < wr.heap.size := Nat.lt_of_lt_of_le hbl HB.out.size
      obtain ⟨ob, cb, b', o', hU, hT⟩ := HF.out.ids k f hf
      have ht1 := hT.len
      have ht2 := hT.max
      unfold maxLen at ht2
      have HT := Lib.hid hT
      have HL := Lib.hid (show (flatI (l.take k)).length + f.ids.length ≤ 10000 by
        have h1 := gflat_len (l := l) (k := k + 1)
        rw [gflat_take hf, List.length_append] at h1
        omega)
      have HJ0 := Lib.hid (rawJ_zero (l.take k) f)
      have HJ1 := Lib.hid (rawJ_all l hf)
      have HJ2 := Lib.hid (gflat_take hf)
      rw [hU] at c0
      clear FL hT hf
      generalize hk1 : l.take (k + 1) = lk1 at *
      have HK1 := Lib.hid hk1
      have hkn := Lib.hid hlt
      clear hk1
      generalize l.take k = lk at *
      have CA := HC.out.later ((Below.refl _ wr).alloc (Nat.le_refl _) (.cells #[.slice ob f.ids.length cb, .int .i64 (f.v 0), .int .i64 (f.v 1), .int .i64 (f.v 2), .int .i64 (f.v 3), .int .i64 (f.v 4), .int .i64 (f.v 5), .int .i64 (f.v 6), .int .i64 (f.v 7)] 115))
      have J0 : GjRel lk f f.ids.length w #[.slice ob f.ids.length cb, .int .i64 (f.v 0), .int .i64 (f.v 1), .int .i64 (f.v 2), .int .i64 (f.v 3), .int .i64 (f.v 4), .int .i64 (f.v 5), .int .i64 (f.v 6), .int .i64 (f.v 7)] wr.heap.size (.int .i64 0) (wr.alloc (.cells #[.slice ob f.ids.length cb, .int .i64 (f.v 0), .int .i64 (f.v 1), .int .i64 (f.v 2), .int .i64 (f.v 3), .int .i64 (f.v 4), .int .i64 (f.v 5), .int .i64 (f.v 6), .int .i64 (f.v 7)] 115)) :=
        ⟨0, Nat.zero_le _, rfl, by rw [HJ0.out, List.take_zero, List.append_nil]; exact Lib.hid CA, Lib.hid (Own.new _ _ _), Lib.hid (HB.out.alloc HB.out.size _)⟩
      have HJ := Lib.hid J0
      have HC0 := HC.out.lt
      clear J0 CA HC HJ0
      have hbf : w.heap.size < wr.heap.size := HC0
      generalize hm : f.ids.length = m at *
      have HM := Lib.hid hm
      clear hm
      go_upto_block 2 with fail
      clear c0 c1 c2 c3 c4 c5 c6 c7 c8 hlt zl hbl
      generalize wr.heap.size = bf at *
      go_wp2_with fail
      go_loopw [18] (fun i wr => GjRel lk f m w #[.slice ob m cb, .int .i64 (f.v 0), .int .i64 (f.v 1), .int .i64 (f.v 2), .int .i64 (f.v 3), .int .i64 (f.v 4), .int .i64 (f.v 5), .int .i64 (f.v 6), .int .i64 (f.v 7)] bf i wr) (fun i _ => m - (intOf i).toNat)
      case atStart => exact HJ.out
      case round =>
        clear HJ HB
        obtain ⟨j, hj, rfl, HC, HO, HB⟩ := hrel
        by_cases hlt : j < m
        · obtain ⟨s, hs⟩ : ∃ s, f.ids[j]? = some s := ⟨_, List.getElem?_eq_getElem (by rw [HM.out]; exact hlt)⟩
          obtain ⟨rfl, hbt⟩ := HT.out.at0 (by rw [HM.out]; omega)
          have cs := (HT.out.later HB.out (Nat.le_refl _)).cell j s hs
          have zt : b' < wr.heap.size := Nat.lt_of_lt_of_le hbt HB.out.size
          have hsz := HT.out.ok s (List.mem_of_getElem? hs)
          have hlk := HC.out.look hsz
          have lo := HO.out.cell
          have zo := HO.out.lt
          have HS := Lib.hid (rawJ_step lk f hs)
          have HT2 := Lib.hid (takeT hs)
          have hnn : (flatI lk).length + j < maxLen := by have := HL.out; unfold maxLen; omega
          have CM := fun w' => Lib.hid (vecMax_calls (rawJ lk f j s) f.v w')
          have PUT := fun w' (h3 : Below wr.heap.size wr w') => (HC.out.later h3).put hsz hnn (maxV (rawJ lk f j s) f.v)
          have PP := Lib.hid PUT
          have HZ := Lib.hid hsz
          clear hs hsz hbt PUT
          go_wp2_with (go_at_call 168; refine (CM _).out.mono ?_; rintro e w3 ⟨rfl, hb3⟩; obtain ⟨w4, hput, hc4, hg4⟩ := PP.out w3 hb3)
          have B4 := Lib.hid ((HB.out.trans (hb3.mono HB.out.size)).grown hg4 (by have := hb3.size; have := HB.out.size; omega) (fun q hq => by cases hq; exact Nat.le_refl _))
          have O4 := Lib.hid ((HO.out.later hb3).grown hg4 (by simp; omega))
          go_roundw
          case rel => exact ⟨j + 1, by omega, by go_num, by rw [HT2.out, ← HS.out, ← List.append_assoc]; exact Lib.hid hc4, O4, B4⟩
          case measure => simp [intOf]; omega
        · have e : j = m := by omega
          subst e
          have HC2 := Lib.hid (show Cnt wr w.heap.size (flatI lk1).length (flatI lk1) (rawF lk1) by
            have h := HC.out
            rw [HJ1.out, ← HM.out, List.take_length, ← List.length_append, ← HJ2.out] at h
            exact h)
          have hkn' := hkn.out
          go_wp2_with fail
          go_roundw
          case rel => exact ⟨k + 1, by omega, by go_num, by rw [HK1.out]; exact HC2, HB⟩
          case measure => simp [intOf]; omega
    · have e : k = n := by omega
      have h := HC.out
      rw [List.take_of_length_le (by rw [HN.out]; omega)] at h
      have H7 := Lib.hid h
      clear h e
      go_wp2_with fail
      go_ret
      exact ⟨rfl, H7.out, HB.out⟩
end Go.Proofs.YtjkcooakddlppaaGreat
/- Counts of replicas: the code's own With, walked. -/
/- The code's list.Put, Drop. Walked. -/
namespace Go.Proofs.YtjkcooakddlppaaGreat
set_option linter.unusedVariables false
set_option linter.unusedSimpArgs false
set_option maxRecDepth 100000
open Go.RowKit
theorem to_le (l : List Itm) (id : ByteArray) : toI l id ≤ l.length := by
  have hk := pos_le l id
  unfold toI
  cases hh : hitI l id with
  | false => simpa using hk
  | true =>
    unfold hitI at hh
    cases e : l[posI l id]? with
    | none => rw [e] at hh; cases hh
    | some i => have := some_posI e; simp only [if_true]; omega
theorem add_none (b o n : Nat) : (⟨b, o, none⟩ : Addr).add n = ⟨b, o + n, none⟩ := by
  unfold Addr.add; split <;> simp_all
theorem Row.slice {w : World} {l : List Itm} {oa : Option Addr} {n cap : Nat} (h : Row 8 ic w l (.slice oa n cap)) (t : Nat) (ht : t ≤ l.length) : Row 8 ic w (l.drop t) (.slice (Option.map (fun x => x.add (t * 8)) oa) (n - t) (cap - t)) := by
  obtain ⟨oa', cap', b, o, e, h⟩ := h
  cases e
  have hc := h.len
  have hm := h.max
  refine ⟨_, cap - t, b, o + t * 8, by rw [List.length_drop], by rw [List.length_drop]; omega, by omega, fun h0 => ?_, fun k i hk j u hu => ?_, fun i hi => h.ok i (List.mem_of_mem_drop hi)⟩
  · rw [List.length_drop] at h0
    obtain ⟨rfl, hb⟩ := h.at0 (by omega)
    exact ⟨by simp only [Option.map_some, add_none], hb⟩
  · rw [List.getElem?_drop] at hk
    have := h.cell (t + k) i hk j u hu
    rw [show o + t * 8 + k * 8 + j = o + (t + k) * 8 + j by omega]
    exact this
theorem Row.none {w : World} {l : List Itm} {oa : Option Addr} {n cap : Nat} (h : Row 8 ic w l (.slice oa n cap)) : Row 8 ic w (l.drop cap) (.slice oa 0 0) := by
  obtain ⟨oa', cap', b, o, e, h⟩ := h
  cases e
  have hc := h.len
  have e : l.drop cap = [] := List.drop_eq_nil_of_le hc
  rw [e]
  exact ⟨_, 0, b, o, rfl, Nat.le_refl _, by decide, fun h0 => by simp at h0, fun k i hk => by simp at hk, fun i hi => by simp at hi⟩
theorem Row.upto {w : World} {l : List Itm} {oa : Option Addr} {n cap : Nat} (h : Row 8 ic w l (.slice oa n cap)) (k : Nat) (hk : k ≤ l.length) : Row 8 ic w (l.take k) (.slice oa k cap) := by
  have e := h.take k
  rw [List.length_take, show min k l.length = k by omega] at e
  exact e
theorem concat2_calls (a b : List Itm) (va vb : Value) (bs : Nat) (w : World) (hlt : bs < w.heap.size) (c0 : w.cell? ⟨bs, 0, none⟩ = some va) (c1 : w.cell? ⟨bs, 1, none⟩ = some vb) (ha : Row 8 ic w a va) (hb : Row 8 ic w b vb) (la : a.length ≤ 2000) (lb : b.length ≤ 2000) :
    Calls Tryz.prog 97 #[.slice (some ⟨bs, 0, none⟩) 2 2] w fun e w' => ∃ v, e = .returned v ∧ OwnI w' w.heap.size (a ++ b) v ∧ Below w.heap.size w w' := by
  have h := concatI_walk 2 (by omega) (fun k => if k = 0 then a else b) (fun k => if k = 0 then va else vb) bs w ⟨hlt, fun k hk => ?_, fun k hk => ?_, fun k hk => ?_⟩
  · simpa [catI] using h
  · obtain rfl | rfl : k = 0 ∨ k = 1 := by omega
    · simpa using c0
    · simpa using c1
  · obtain rfl | rfl : k = 0 ∨ k = 1 := by omega
    · simpa using ha
    · simpa using hb
  · obtain rfl | rfl : k = 0 ∨ k = 1 := by omega
    · simpa using la
    · simpa using lb
theorem concat3_calls (a b c : List Itm) (va vb vc : Value) (bs : Nat) (w : World) (hlt : bs < w.heap.size) (c0 : w.cell? ⟨bs, 0, none⟩ = some va) (c1 : w.cell? ⟨bs, 1, none⟩ = some vb) (c2 : w.cell? ⟨bs, 2, none⟩ = some vc) (ha : Row 8 ic w a va) (hb : Row 8 ic w b vb) (hc : Row 8 ic w c vc) (la : a.length ≤ 2000) (lb : b.length ≤ 2000) (lc : c.length ≤ 2000) :
    Calls Tryz.prog 97 #[.slice (some ⟨bs, 0, none⟩) 3 3] w fun e w' => ∃ v, e = .returned v ∧ OwnI w' w.heap.size (a ++ (b ++ c)) v ∧ Below w.heap.size w w' := by
  have h := concatI_walk 3 (by omega) (fun k => if k = 0 then a else if k = 1 then b else c) (fun k => if k = 0 then va else if k = 1 then vb else vc) bs w ⟨hlt, fun k hk => ?_, fun k hk => ?_, fun k hk => ?_⟩
  · simpa [catI] using h
  · obtain rfl | rfl | rfl : k = 0 ∨ k = 1 ∨ k = 2 := by omega
    · simpa using c0
    · simpa using c1
    · simpa using c2
  · obtain rfl | rfl | rfl : k = 0 ∨ k = 1 ∨ k = 2 := by omega
    · simpa using ha
    · simpa using hb
    · simpa using hc
  · obtain rfl | rfl | rfl : k = 0 ∨ k = 1 ∨ k = 2 := by omega
    · simpa using la
    · simpa using lb
    · simpa using lc
theorem oks_sub {l m : List Itm} (h : ∀ i ∈ l, i.id.size ≤ maxLen ∧ i.kd.size ≤ maxLen) (hs : ∀ i ∈ m, i ∈ l) : ∀ i ∈ m, i.id.size ≤ maxLen ∧ i.kd.size ≤ maxLen := fun i hi => h i (hs i hi)
set_option maxRecDepth 100000 in
set_option maxHeartbeats 4000000 in
theorem listDropF_calls (l : List Itm) (id : ByteArray) (v : Value) (w : World) (hR : Row 8 ic w l v) (hr : RiseI l) (hl : l.length ≤ 1000) (hid : id.size ≤ maxLen) :
    Calls Tryz.prog 44 #[v, .string id] w fun e w' => ∃ v', e = .returned v' ∧ OwnI w' w.heap.size (l.filter (neB id)) v' ∧ Below w.heap.size w w' := by
  have S := Lib.hid (span_calls l id v w hR hr (by omega))
  have HO := Lib.hid (oks_sub (m := l.filter (neB id)) hR.oks fun i hi => (List.mem_filter.1 hi).1)
  have E := Lib.hid (dropI_span (id := id) hr)
  have LR := Lib.hid hR
  obtain ⟨oa, cap, rfl⟩ := hR.val
  have kx := hR.cap
  have hk := pos_le l id
  have ht := to_le l id
  clear hR hr
  generalize toI l id = t at *
  generalize posI l id = k at *
  have q1 : (0 : Int) ≤ (k : Int) := by omega
  have q2 : (k : Int) ≤ (cap : Int) := by omega
  have q3 : (0 : Int) ≤ (t : Int) := by omega
  have q4 : (t : Int) ≤ (l.length : Int) := by omega
  go_enter Tryz.func44, Tryz.ntmps44
  go_upto_region 2 with (go_at_call 89; refine S.out.mono ?_; rintro e w1 ⟨rfl, hb⟩; replace LR := Lib.hid (LR.out.later hb))
  have W2 : ∀ x y : Value, Hid (Row 8 ic w1 (l.take k) x → Row 8 ic w1 (l.drop t) y → Calls Tryz.prog 97 #[.slice (some ⟨w1.heap.size, 0, none⟩) 2 2] (w1.alloc (.cells #[x, y] 44)).drew fun e w' => ∃ v, e = .returned v ∧ OwnI w' (w1.heap.size + 1) (l.filter (neB id)) v ∧ Below w1.heap.size w1 w') := fun x y => Lib.hid (fun hx hy => by
    have h := concat2_calls (l.take k) (l.drop t) x y w1.heap.size (w1.alloc (.cells #[x, y] 44)).drew (by simp) ((Has.new w1 #[x, y] 44).cell 0) ((Has.new w1 #[x, y] 44).cell 1) (hx.alloc _).drew (hy.alloc _).drew (by rw [List.length_take]; omega) (by rw [List.length_drop]; omega)
    rw [E.out] at h
    refine h.mono ?_
    rintro e w' ⟨v, he, ho, hb⟩
    exact ⟨v, he, by simpa using ho, (((Below.refl _ _).alloc (Nat.le_refl _) _).drew).trans (hb.mono (by simp))⟩)
  refine region_still_tail 6 (by kernel_rfl) (by kernel_rfl) ?_
  simp only [List.take_succ_cons, List.take_zero, List.drop_succ_cons, List.drop_zero]
  by_cases hq : cap = t
  · subst hq
    repeat (first | still_step)
    refine wpStill_nil ?_
    go_wp2_with fail
    refine ((W2 _ _).out (LR.out.upto k hk) (LR.out.none)).mono ?_
    rintro e w2 ⟨v, rfl, ho, hb2⟩
    go_wp2_with fail
    go_ret
    exact ⟨_, rfl, ho.mono (by have := hb.size; omega), hb.trans (hb2.mono hb.size)⟩
  · repeat (first | still_step)
    refine wpStill_nil ?_
    go_wp2_with fail
    refine ((W2 _ _).out (LR.out.upto k hk) (LR.out.slice t ht)).mono ?_
    rintro e w2 ⟨v, rfl, ho, hb2⟩
    go_wp2_with fail
    go_ret
    exact ⟨_, rfl, ho.mono (by have := hb.size; omega), hb.trans (hb2.mono hb.size)⟩
set_option maxRecDepth 100000 in
set_option maxHeartbeats 4000000 in
theorem listPutF_calls (l : List Itm) (x : Itm) (v : Value) (w : World) (hR : Row 8 ic w l v) (hr : RiseI l) (hl : l.length ≤ 1000) (hx : x.id.size ≤ maxLen ∧ x.kd.size ≤ maxLen) :
    Calls Tryz.prog 45 #[v, iV x] w fun e w' => ∃ v', e = .returned v' ∧ OwnI w' w.heap.size (putI l x) v' ∧ Below w.heap.size w w' := by
  have LR := Lib.hid (hR.alloc (.cells (iA x) 49))
  have S := Lib.hid (span_calls l x.id v _ LR.out hr (by omega))
  have OX := Lib.hid (Has.new w (iA x) 49)
  have BEL := Lib.hid ((Below.refl w.heap.size w).alloc (Nat.le_refl _) (.cells (iA x) 49))
  have E := Lib.hid (putI_span (x := x) hr)
  have HO := Lib.hid (show ∀ i ∈ putI l x, i.id.size ≤ maxLen ∧ i.kd.size ≤ maxLen from fun i hi => by
    rcases mem_put.1 hi with e | ⟨e, _⟩
    · rw [e]; exact hx
    · exact hR.oks i e)
  obtain ⟨oa, cap, rfl⟩ := hR.val
  have kx := hR.cap
  have hk := pos_le l x.id
  have ht := to_le l x.id
  have HX := Lib.hid hx
  clear hR hr hx
  generalize toI l x.id = t at *
  generalize posI l x.id = k at *
  have q1 : (0 : Int) ≤ (k : Int) := by omega
  have q2 : (k : Int) ≤ (cap : Int) := by omega
  have q3 : (0 : Int) ≤ (t : Int) := by omega
  have q4 : (t : Int) ≤ (l.length : Int) := by omega
  go_enter Tryz.func45, Tryz.ntmps45
  have l0 := OX.out.cell
  have z0 := OX.out.lt
  go_upto_region 2 with (go_at_call 89; clear l0 z0; refine S.out.mono ?_; rintro e w1 ⟨rfl, hb⟩; replace LR := Lib.hid (LR.out.later hb); replace OX := Lib.hid (OX.out.below hb OX.out.lt); replace BEL := Lib.hid (BEL.out.trans (hb.mono BEL.out.size)))
  have l1 := OX.out.cell
  have z1 := OX.out.lt
  have zb := BEL.out.size
  have W3 : ∀ (B : Nat) (va vc : Value), Hid (B = w1.heap.size + 1 → Row 8 ic w1 (l.take k) va → Row 8 ic w1 (l.drop t) vc → Calls Tryz.prog 97 #[.slice (some ⟨B, 0, none⟩) 3 3] ((w1.alloc (.cells (iA x) 49)).alloc (.cells #[va, .slice (some ⟨w1.heap.size, 0, none⟩) 1 1, vc] 44)).drew fun e w' => ∃ v, e = .returned v ∧ OwnI w' (w1.heap.size + 2) (putI l x) v ∧ Below w1.heap.size w1 w') := fun B va vc => Lib.hid (fun hB ha hc => by
    subst hB
    have o1 := (row_oneI w1 x 49 HX.out)
    have hs := Has.new (w1.alloc (.cells (iA x) 49)) #[va, .slice (some ⟨w1.heap.size, 0, none⟩) 1 1, vc] 44
    have h := concat3_calls (l.take k) [x] (l.drop t) va (.slice (some ⟨w1.heap.size, 0, none⟩) 1 1) vc (w1.alloc (.cells (iA x) 49)).heap.size ((w1.alloc (.cells (iA x) 49)).alloc (.cells #[va, .slice (some ⟨w1.heap.size, 0, none⟩) 1 1, vc] 44)).drew hs.drew.lt (hs.drew.cell 0) (hs.drew.cell 1) (hs.drew.cell 2) ((ha.alloc _).alloc _).drew (o1.alloc _).drew ((hc.alloc _).alloc _).drew (by rw [List.length_take]; omega) (by simp) (by rw [List.length_drop]; omega)
    rw [E.out, show (w1.alloc (.cells (iA x) 49)).heap.size = w1.heap.size + 1 by simp] at h
    refine h.mono ?_
    rintro e w' ⟨v, he, ho, hb⟩
    exact ⟨v, he, by simpa using ho, ((((Below.refl _ _).alloc (Nat.le_refl _) _).alloc (by simp) _).drew).trans (hb.mono (by simp; omega))⟩)
  by_cases hq : cap = t
  · subst hq
    go_region_held3 (fun w' => ∀ o, w'.cell? ⟨w.heap.size, o, none⟩ = (iA x)[o]?) (first | with_reducible exact OX2.out.cell | with_reducible exact OX.out.cell | with_reducible exact OX.out.drew.cell | with_reducible exact ((OX.out.alloc _).drew).cell | with_reducible exact ((OX.out.alloc _).drew.alloc _).cell | with_reducible exact (((OX.out.alloc _).alloc _).drew).cell) (first
      | (go_simp; go_at_call 97; with_reducible refine ((W3 _ _ _).out rfl (LR.out.upto k hk) LR.out.none).mono ?_; rintro e w2 ⟨v, rfl, ho, hb2⟩; have OX2 := Lib.hid (OX.out.below hb2 OX.out.lt))
      | fail)
    go_wp2_with fail
    go_ret
    exact ⟨_, rfl, ho.mono (by have := BEL.out.size; omega), BEL.out.trans (hb2.mono BEL.out.size)⟩
  · go_region_held3 (fun w' => ∀ o, w'.cell? ⟨w.heap.size, o, none⟩ = (iA x)[o]?) (first | with_reducible exact OX2.out.cell | with_reducible exact OX.out.cell | with_reducible exact OX.out.drew.cell | with_reducible exact ((OX.out.alloc _).drew).cell | with_reducible exact ((OX.out.alloc _).drew.alloc _).cell | with_reducible exact (((OX.out.alloc _).alloc _).drew).cell) (first
      | (go_simp; go_at_call 97; with_reducible refine ((W3 _ _ _).out rfl (LR.out.upto k hk) (LR.out.slice t ht)).mono ?_; rintro e w2 ⟨v, rfl, ho, hb2⟩; have OX2 := Lib.hid (OX.out.below hb2 OX.out.lt))
      | fail)
    go_wp2_with fail
    go_ret
    exact ⟨_, rfl, ho.mono (by have := BEL.out.size; omega), BEL.out.trans (hb2.mono BEL.out.size)⟩
end Go.Proofs.YtjkcooakddlppaaGreat
