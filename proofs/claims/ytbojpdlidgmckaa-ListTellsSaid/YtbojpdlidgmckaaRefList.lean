/- Lists of items: plain data made items, and the document's answers, walked. -/
import Derived.Test.YtbojpdlidgmckaaRowI
import Derived.Test.YtbojpdlidgmckaaItemQ
import Derived.Test.YtbojpdlidgmckaaSet8
import Derived.Test.YtbojpdlidgmckaaOrd
import Derived.Deep.CutBlock
import Derived.Deep.DeepCutAuto
namespace Go.Proofs.Ytbojpdlidgmckaa
set_option linter.unusedVariables false
set_option linter.unusedSimpArgs false
open Go.RowKit

def FRel (F : Nat → List Itm) (len : Nat) (w : World) (lv iv : Value) (wr : World) : Prop :=
  ∃ (k : Nat) (sv : Value), k ≤ len ∧ iv = .int .i64 k ∧ sv = lv ∧ Hid (OwnI wr w.heap.size (F k) sv) ∧ Hid (Below w.heap.size w wr)

set_option maxRecDepth 100000 in
set_option maxHeartbeats 4000000 in
theorem items_calls (l : List Itm) (v : Value) (w : World) (hR : Row 9 rc w l v) (hlen : l.length ≤ 10000) :
    Calls Try.prog 7 #[v] w fun e w' => ∃ v', e = .returned v' ∧ OwnI w' w.heap.size l v' ∧ Below w.heap.size w w' := by
  obtain ⟨oa, cap, b, o, rfl, hr⟩ := hR
  obtain ⟨i0, hi, hz0, hz1, hz2⟩ := info_parts info_item
  have HR := Lib.hid hr
  have hcap := hr.len
  have hmax := hr.max
  unfold maxLen at hmax
  clear hr
  generalize hn : l.length = len at *
  have HN := Lib.hid hn
  clear hn
  go_enter Try.func7, Try.ntmps7
  go_wp2_with fail
  go_loopw [3, 4] (fun lv iv wr => FRel (fun k => l.take k) len w lv iv wr) (fun _ iv _ => len - (intOf iv).toNat)
  case atStart => exact ⟨0, _, Nat.zero_le _, rfl, rfl, by unfold Hid; exact OwnI.nil _ _, Below.refl _ _⟩
  case round =>
    obtain ⟨k, sv, hk, rfl, rfl, HO, HB⟩ := hrel
    replace HO := Lib.hid (show OwnI wr w.heap.size (l.take k) sv from HO.out)
    by_cases hlt : k < len
    · obtain ⟨i, hi9⟩ : ∃ i, l[k]? = some i := ⟨_, List.getElem?_eq_getElem (by rw [HN.out]; exact hlt)⟩
      obtain ⟨rfl, hb0⟩ := HR.out.at0 (by rw [HN.out]; omega)
      obtain ⟨c0, c1, c2, c3, c4, c5, c6, c7, c8⟩ := rc_cells (w := wr) (fun j u hu => (HB.out.cell (p := ⟨b, o + k * 9 + j, none⟩) hb0).trans (HR.out.cell k i hi9 j u hu))
      have zb := Nat.lt_of_lt_of_le hb0 HB.out.size
      have C := Lib.hid (item_calls i.id i.r i.c i.st i.kd i.num i.x i.y i.d wr)
      have hlk : (l.take k).length = k := by rw [List.length_take, HN.out]; omega
      have HI := Lib.hid hi9
      clear hi9
      have zw := HB.out.size
      go_wp2_with fail
      refine C.out.mono ?_
      rintro e w2 ⟨rfl, hb2⟩
      have HO2 := Lib.hid (HO.out.later hb2)
      have HB2 := Lib.hid (HB.out.trans (hb2.mono HB.out.size))
      have zw2 := HB2.out.size
      clear hb2
      have HO3 := Lib.hid (HO2.out.alloc (.cells #[.string i.id, .int .i64 i.r, .int .i64 i.c, .int .i64 i.st, .string i.kd, .int .i64 i.num, .complex .f64 i.x i.y, .bool i.d] 34))
      have HB3 := Lib.hid (HB2.out.alloc zw2 (.cells #[.string i.id, .int .i64 i.r, .int .i64 i.c, .int .i64 i.st, .string i.kd, .int .i64 i.num, .complex .f64 i.x i.y, .bool i.d] 34))
      have hown : (w2.alloc (.cells #[.string i.id, .int .i64 i.r, .int .i64 i.c, .int .i64 i.st, .string i.kd, .int .i64 i.num, .complex .f64 i.x i.y, .bool i.d] 34)).ownsRow w.heap.size 34 8 sv k (cellsI (l.take k)) := by have := HO3.out; unfold OwnI at this; rw [hlk] at this; exact this
      go_wp2_with (at_builtin; refine wpList_append_lies _ (by rfl) _ _ _ (by rfl) w.heap.size 34 i0 _ 8 88 Try.underlying28 hi hz0 hz1 hz2 rfl (by omega) sv k (cellsI (l.take k)) (by rfl) hown ⟨w2.heap.size, 0, none⟩ 1 1 (ic i) (by rfl) (by rfl) newsI (itI_one i) (by omega) (by unfold maxLen; omega) (by omega) (by simp; omega) (w2.heap.size + 1) (by simp) ?_; intro g cap' w3 hown3 hgrow hat hlt3)
      have R1 := Lib.hid (OwnI.push hown3 (by omega))
      have R2 := Lib.hid (below_push HO3.out HB3.out (Nat.le_refl _) hgrow HB3.out.size)
      clear hown hown3 hgrow hat
      go_roundw
      case rel => exact ⟨k + 1, _, by omega, by go_num, rfl, Lib.hid (by show OwnI _ _ (l.take (k + 1)) _; rw [takeI HI.out]; exact R1.out), R2⟩
      case measure => simp [intOf]; omega
    · have e : len = k := by omega
      subst e
      have h1 := HO.out
      rw [List.take_of_length_le (by rw [HN.out]; omega)] at h1
      have H1 := Lib.hid h1
      clear h1
      go_wp2_with fail
      go_ret
      exact ⟨_, rfl, H1.out, HB.out⟩

def neB (id : ByteArray) (i : Itm) : Bool := !(i.id.toList == id.toList)
theorem filt_put {p : Itm → Bool} {l : List Itm} {k : Nat} {i : Itm} (h : l[k]? = some i) (hp : p i = true) : (l.take (k + 1)).filter p = (l.take k).filter p ++ [i] := by
  rw [takeI h, List.filter_append]; simp [hp]
theorem filt_skip {p : Itm → Bool} {l : List Itm} {k : Nat} {i : Itm} (h : l[k]? = some i) (hp : p i = false) : (l.take (k + 1)).filter p = (l.take k).filter p := by
  rw [takeI h, List.filter_append]; simp [hp]
theorem filt_len {p : Itm → Bool} {l : List Itm} {k : Nat} : ((l.take k).filter p).length ≤ k := Nat.le_trans (List.length_filter_le _ _) (by rw [List.length_take]; omega)

set_option maxRecDepth 100000 in
set_option maxHeartbeats 4000000 in
theorem refDrop_calls (l : List Itm) (id : ByteArray) (v : Value) (w : World) (hR : Row 8 ic w l v) (hlen : l.length ≤ 10000) :
    Calls Try.prog 19 #[v, .string id] w fun e w' => ∃ v', e = .returned v' ∧ OwnI w' w.heap.size (l.filter (neB id)) v' ∧ Below w.heap.size w w' := by
  obtain ⟨oa, cap, b, o, rfl, hr⟩ := hR
  obtain ⟨i0, hi, hz0, hz1, hz2⟩ := info_parts info_item
  have HR := Lib.hid hr
  have hcap := hr.len
  have hmax := hr.max
  unfold maxLen at hmax
  clear hr
  generalize hn : l.length = len at *
  have HN := Lib.hid hn
  clear hn
  go_enter Try.func19, Try.ntmps19
  go_wp2_with fail
  go_loopw [5, 6] (fun lv iv wr => FRel (fun k => (l.take k).filter (neB id)) len w lv iv wr) (fun _ iv _ => len - (intOf iv).toNat)
  case atStart => exact ⟨0, _, Nat.zero_le _, rfl, rfl, by unfold Hid; exact OwnI.nil _ _, Below.refl _ _⟩
  case round =>
    obtain ⟨k, sv, hk, rfl, rfl, HO, HB⟩ := hrel
    replace HO := Lib.hid (show OwnI wr w.heap.size ((l.take k).filter (neB id)) sv from HO.out)
    by_cases hlt : k < len
    · obtain ⟨i, hi9⟩ : ∃ i, l[k]? = some i := ⟨_, List.getElem?_eq_getElem (by rw [HN.out]; exact hlt)⟩
      obtain ⟨rfl, hb0⟩ := HR.out.at0 (by rw [HN.out]; omega)
      obtain ⟨c0, c1, c2, c3, c4, c5, c6, c7⟩ := ic_cells (w := wr) (fun j u hu => (HB.out.cell (p := ⟨b, o + k * 8 + j, none⟩) hb0).trans (HR.out.cell k i hi9 j u hu))
      have zb := Nat.lt_of_lt_of_le hb0 HB.out.size
      have zw := HB.out.size
      have HI := Lib.hid hi9
      clear hi9
      cases ht : (i.id.toList == id.toList)
      · have hp : neB id i = true := by unfold neB; rw [ht]; rfl
        have hfl := filt_len (p := neB id) (l := l) (k := k)
        have HF := Lib.hid (filt_put (p := neB id) HI.out hp)
        have HO3 := Lib.hid (HO.out.alloc (.cells #[.string i.id, .int .i64 i.r, .int .i64 i.c, .int .i64 i.st, .string i.kd, .int .i64 i.num, .complex .f64 i.x i.y, .bool i.d] 34))
        have HB3 := Lib.hid (HB.out.alloc zw (.cells #[.string i.id, .int .i64 i.r, .int .i64 i.c, .int .i64 i.st, .string i.kd, .int .i64 i.num, .complex .f64 i.x i.y, .bool i.d] 34))
        have hown : (wr.alloc (.cells #[.string i.id, .int .i64 i.r, .int .i64 i.c, .int .i64 i.st, .string i.kd, .int .i64 i.num, .complex .f64 i.x i.y, .bool i.d] 34)).ownsRow w.heap.size 34 8 sv ((l.take k).filter (neB id)).length (cellsI ((l.take k).filter (neB id))) := HO3.out
        clear hp
        go_wp2_with (at_builtin; refine wpList_append_lies _ (by rfl) _ _ _ (by rfl) w.heap.size 34 i0 _ 8 88 Try.underlying28 hi hz0 hz1 hz2 rfl (by omega) sv ((l.take k).filter (neB id)).length (cellsI ((l.take k).filter (neB id))) (by rfl) hown ⟨wr.heap.size, 0, none⟩ 1 1 (ic i) (by rfl) (by rfl) newsI (itI_one i) (by omega) (by unfold maxLen; omega) (by omega) (by simp; omega) (wr.heap.size + 1) (by simp) ?_; intro g cap' w3 hown3 hgrow hat hlt3)
        have R1 := Lib.hid (OwnI.push hown3 rfl)
        have R2 := Lib.hid (below_push HO3.out HB3.out (Nat.le_refl _) hgrow HB3.out.size)
        clear hown hown3 hgrow hat
        go_roundw
        case rel => exact ⟨k + 1, _, by omega, by go_num, rfl, Lib.hid (by show OwnI _ _ ((l.take (k + 1)).filter (neB id)) _; rw [HF.out]; exact R1.out), R2⟩
        case measure => simp [intOf]; omega
      · have HF := Lib.hid (filt_skip (p := neB id) HI.out (by unfold neB; rw [ht]; rfl))
        go_wp2_with fail
        go_roundw
        case rel => exact ⟨k + 1, _, by omega, by go_num, rfl, Lib.hid (by show OwnI _ _ ((l.take (k + 1)).filter (neB id)) _; rw [HF.out]; exact HO.out), HB⟩
        case measure => simp [intOf]; omega
    · have e : len = k := by omega
      subst e
      have h1 := HO.out
      rw [List.take_of_length_le (by rw [HN.out]; omega)] at h1
      have H1 := Lib.hid h1
      clear h1
      go_wp2_with fail
      go_ret
      exact ⟨_, rfl, H1.out, HB.out⟩

def getI (l : List Itm) (id : ByteArray) : Itm × Bool := match l.find? (fun i => i.id.toList == id.toList) with
  | some i => (i, true)
  | none => (Itm.zero, false)
theorem find_at {p : Itm → Bool} {l : List Itm} {k : Nat} {i : Itm} (h : l[k]? = some i) (hp : p i = true) (hn : ∀ j x, j < k → l[j]? = some x → p x = false) : l.find? p = some i := by
  induction l generalizing k with
  | nil => simp at h
  | cons a l ih =>
    cases k with
    | zero => simp at h; subst h; simp [List.find?_cons, hp]
    | succ k =>
      simp at h
      have := hn 0 a (by omega) rfl
      rw [List.find?_cons, this]
      exact ih h fun j x hj hx => hn (j + 1) x (by omega) (by simpa using hx)
theorem find_no {p : Itm → Bool} {l : List Itm} (hn : ∀ j x, j < l.length → l[j]? = some x → p x = false) : l.find? p = none := by
  rw [List.find?_eq_none]
  intro x hx
  obtain ⟨j, hj, e⟩ := List.mem_iff_getElem.1 hx
  have := hn j x hj (by rw [List.getElem?_eq_getElem hj, e])
  simp [this]
def GRel (l : List Itm) (id : ByteArray) (len : Nat) (w : World) (iv : Value) (wr : World) : Prop :=
  ∃ k : Nat, k ≤ len ∧ iv = .int .i64 k ∧ Hid (∀ j x, j < k → l[j]? = some x → (x.id.toList == id.toList) = false) ∧ Hid (Own wr w.heap.size #[.string ⟨#[]⟩, .int .i64 0, .int .i64 0, .int .i64 0, .string ⟨#[]⟩, .int .i64 0, .complex .f64 0 0, .bool false] 34) ∧ Hid (Below w.heap.size w wr)

set_option maxRecDepth 100000 in
set_option maxHeartbeats 4000000 in
theorem refGet_calls (l : List Itm) (id : ByteArray) (v : Value) (w : World) (hR : Row 8 ic w l v) :
    Calls Try.prog 13 #[v, .string id] w fun e w' => e = .returned (.tuple #[iV (getI l id).1, .bool (getI l id).2]) ∧ Below w.heap.size w w' := by
  obtain ⟨oa, cap, b, o, rfl, hr⟩ := hR
  have HR := Lib.hid hr
  have hcap := hr.len
  have hmax := hr.max
  unfold maxLen at hmax
  clear hr
  generalize hg : getI l id = gg at *
  have HG := Lib.hid hg
  clear hg
  generalize hn : l.length = len at *
  have HN := Lib.hid hn
  clear hn
  go_enter Try.func13, Try.ntmps13
  go_wp2_with fail
  go_loopw [6] (fun iv wr => GRel l id len w iv wr) (fun iv _ => len - (intOf iv).toNat)
  case atStart => exact ⟨0, Nat.zero_le _, rfl, fun j x hj => absurd hj (by omega), by unfold Hid; exact Own.new _ _ _, by unfold Hid; exact (Below.refl _ _).alloc (Nat.le_refl _) _⟩
  case round =>
    obtain ⟨k, hk, rfl, HS, HO, HB⟩ := hrel
    by_cases hlt : k < len
    · obtain ⟨i, hi9⟩ : ∃ i, l[k]? = some i := ⟨_, List.getElem?_eq_getElem (by rw [HN.out]; exact hlt)⟩
      obtain ⟨rfl, hb0⟩ := HR.out.at0 (by rw [HN.out]; omega)
      obtain ⟨c0, c1, c2, c3, c4, c5, c6, c7⟩ := ic_cells (w := wr) (fun j u hu => (HB.out.cell (p := ⟨b, o + k * 8 + j, none⟩) hb0).trans (HR.out.cell k i hi9 j u hu))
      have zb := Nat.lt_of_lt_of_le hb0 HB.out.size
      have HI := Lib.hid hi9
      clear hi9
      cases ht : (i.id.toList == id.toList)
      · have HS2 := Lib.hid (show ∀ j x, j < k + 1 → l[j]? = some x → (x.id.toList == id.toList) = false from fun j x hj hx => by
          by_cases e : j = k
          · subst e; rw [HI.out] at hx; cases hx; exact ht
          · exact HS.out j x (by omega) hx)
        go_wp2_with fail
        go_roundw
        case rel => exact ⟨k + 1, by omega, by go_num, HS2.out, HO, HB⟩
        case measure => simp [intOf]; omega
      · have E := Lib.hid (show gg = (i, true) by rw [← HG.out]; unfold getI; rw [find_at HI.out ht HS.out])
        have l1 := HO.out.cell
        have f1 := HO.out.free
        have z1 := HO.out.lt
        have hne : b ≠ w.heap.size := by omega
        go_wp2_with fail
        clear ht
        -- found
        have key := And.intro (st8_own HO.out (.string i.id) (.int .i64 i.r) (.int .i64 i.c) (.int .i64 i.st) (.string i.kd) (.int .i64 i.num) (.complex .f64 i.x i.y) (.bool i.d)) (st8_below (b := w.heap.size) HB.out (Nat.le_refl _) (.string i.id) (.int .i64 i.r) (.int .i64 i.c) (.int .i64 i.st) (.string i.kd) (.int .i64 i.num) (.complex .f64 i.x i.y) (.bool i.d))
        clear l1 f1 z1 c0 c1 c2 c3 c4 c5 c6 c7
        unfold st8 at key
        revert key
        generalize World.setCell (World.setCell (World.setCell (World.setCell (World.setCell (World.setCell (World.setCell (World.setCell _ _ _) _ _) _ _) _ _) _ _) _ _) _ _) _ _ = WW
        rintro ⟨of, bf⟩
        have lf := of.cell
        refine bodyPost_ret (v := .tuple #[iV i, .bool true]) (by simp [results, Try.results13, go_sem, lf, Itm.zero]) rfl ⟨by rw [E.out], bf⟩
    · have E := Lib.hid (show gg = (Itm.zero, false) by
        rw [← HG.out]; unfold getI
        rw [find_no (fun j x hj hx => HS.out j x (by rw [HN.out] at hj; omega) hx)])
      have l1 := HO.out.cell
      have f1 := HO.out.free
      have z1 := HO.out.lt
      go_wp2_with fail
      have key := And.intro (st8_own HO.out (.string ⟨#[]⟩) (.int .i64 0) (.int .i64 0) (.int .i64 0) (.string ⟨#[]⟩) (.int .i64 0) (.complex .f64 0 0) (.bool false)) (st8_below (b := w.heap.size) HB.out (Nat.le_refl _) (.string ⟨#[]⟩) (.int .i64 0) (.int .i64 0) (.int .i64 0) (.string ⟨#[]⟩) (.int .i64 0) (.complex .f64 0 0) (.bool false))
      clear l1 f1 z1
      unfold st8 at key
      revert key
      generalize World.setCell (World.setCell (World.setCell (World.setCell (World.setCell (World.setCell (World.setCell (World.setCell _ _ _) _ _) _ _) _ _) _ _) _ _) _ _) _ _ = WW
      rintro ⟨of, bf⟩
      have lf := of.cell
      refine bodyPost_ret (v := .tuple #[iV Itm.zero, .bool false]) (by simp [results, Try.results13, go_sem, lf, Itm.zero]) rfl ⟨by rw [E.out], bf⟩

def putI (l : List Itm) (x : Itm) : List Itm := (l.filter (fun i => lsB i.id x.id) ++ [x]) ++ l.filter (fun i => gtB i.id x.id)
def PutRel (F : Nat → List Itm) (len : Nat) (X : Array Value) (w : World) (lv iv : Value) (wr : World) : Prop :=
  ∃ (k : Nat) (sv : Value), k ≤ len ∧ iv = .int .i64 k ∧ sv = lv ∧ Hid (OwnI wr (w.heap.size + 1) (F k) sv) ∧ Hid (Own wr w.heap.size X 34) ∧ Hid (Below w.heap.size w wr)

set_option maxRecDepth 100000 in
set_option maxHeartbeats 8000000 in
theorem refPut_calls (l : List Itm) (x : Itm) (v : Value) (w : World) (hR : Row 8 ic w l v) (hlen : l.length ≤ 10000) :
    Calls Try.prog 17 #[v, iV x] w fun e w' => ∃ v', e = .returned v' ∧ OwnI w' w.heap.size (putI l x) v' ∧ Below w.heap.size w w' := by
  obtain ⟨oa, cap, b, o, rfl, hr⟩ := hR
  obtain ⟨i0, hi, hz0, hz1, hz2⟩ := info_parts info_item
  have HR := Lib.hid hr
  have hcap := hr.len
  have hmax := hr.max
  unfold maxLen at hmax
  clear hr
  generalize hn : l.length = len at *
  have HN := Lib.hid hn
  clear hn
  go_enter Try.func17, Try.ntmps17
  go_wp2_with fail
  go_loopw [5, 6] (fun lv iv wr => PutRel (fun k => (l.take k).filter (fun i => lsB i.id x.id)) len #[.string x.id, .int .i64 x.r, .int .i64 x.c, .int .i64 x.st, .string x.kd, .int .i64 x.num, .complex .f64 x.x x.y, .bool x.d] w lv iv wr) (fun _ iv _ => len - (intOf iv).toNat)
  case atStart => exact ⟨0, _, Nat.zero_le _, rfl, rfl, by unfold Hid; exact OwnI.nil _ _, by unfold Hid; exact Own.new _ _ _, by unfold Hid; exact (Below.refl _ _).alloc (Nat.le_refl _) _⟩
  case round =>
    obtain ⟨k, sv, hk, rfl, rfl, HO, HX, HB⟩ := hrel
    replace HO := Lib.hid (show OwnI wr (w.heap.size + 1) ((l.take k).filter (fun i => lsB i.id x.id)) sv from HO.out)
    by_cases hlt : k < len
    · obtain ⟨i, hi9⟩ : ∃ i, l[k]? = some i := ⟨_, List.getElem?_eq_getElem (by rw [HN.out]; exact hlt)⟩
      obtain ⟨rfl, hb0⟩ := HR.out.at0 (by rw [HN.out]; omega)
      obtain ⟨c0, c1, c2, c3, c4, c5, c6, c7⟩ := ic_cells (w := wr) (fun j u hu => (HB.out.cell (p := ⟨b, o + k * 8 + j, none⟩) hb0).trans (HR.out.cell k i hi9 j u hu))
      have zb := Nat.lt_of_lt_of_le hb0 HB.out.size
      have r0 := fun dd os => cell_regrown c0 dd os
      have LA := fun dd os o => HX.out.has.regrown dd os o
      have zw := HB.out.size
      have HI := Lib.hid hi9
      have zx := HX.out.lt
      have hk0 : (0 : Int) ≤ (k : Int) := by omega
      have hk1 : (k : Int) < (len : Int) := by omega
      clear c0 c1 c2 c3 c4 c5 c6 c7 hi9
      cases ht : lsB i.id x.id
      · have HF := Lib.hid (filt_skip (p := (fun i => lsB i.id x.id)) HI.out ht)
        have hg := ht
        unfold lsB at hg
        go_wp2_with fail
        refine wp_region_quiet_below (by kernel_rfl) (by kernel_rfl) ?_
        repeat (first | go_big_quiet_step (fail) | quiet_step (fail))
        refine wpQuiet_nil ?_
        intro w7 hw'
        have hb' := Lib.hid (regrown_below hw')
        clear hw'
        clear r0 LA
        have HO7 := Lib.hid (HO.out.later hb'.out)
        have HX7 := Lib.hid (HX.out.later hb'.out)
        have HB7 := Lib.hid (HB.out.trans (hb'.out.mono HB.out.size))
        go_wp2_with fail
        go_roundw
        case rel => exact ⟨k + 1, _, by omega, by go_num, rfl, Lib.hid (by show OwnI _ _ ((l.take (k + 1)).filter (fun i => lsB i.id x.id)) _; rw [HF.out]; exact HO7.out), HX7, HB7⟩
        case measure => simp [intOf]; omega
      · have HF := Lib.hid (filt_put (p := (fun i => lsB i.id x.id)) HI.out ht)
        have hg := ht
        unfold lsB at hg
        have hfl : ((l.take k).filter (fun i => lsB i.id x.id)).length ≤ 20001 := by
          have h1 := filt_len (p := (fun i => lsB i.id x.id)) (l := l) (k := k)
          have h2 := List.length_filter_le (fun i => lsB i.id x.id) l
          have h3 := HN.out
          try simp only [List.length_append, List.length_cons, List.length_nil] at *
          omega
        obtain ⟨nk, hnk⟩ : ∃ nk, nk = ((l.take k).filter (fun i => lsB i.id x.id)).length := ⟨_, rfl⟩
        rw [← hnk] at hfl
        go_wp2_with fail
        refine wp_region_quiet_below (by kernel_rfl) (by kernel_rfl) ?_
        repeat (first | go_big_quiet_step (fail) | quiet_step (fail))
        refine wpQuiet_nil ?_
        intro w7 hw'
        have hb' := Lib.hid (regrown_below hw')
        clear hw'
        clear r0 LA
        have HO7 := Lib.hid (HO.out.later hb'.out)
        have HX7 := Lib.hid (HX.out.later hb'.out)
        have HB7 := Lib.hid (HB.out.trans (hb'.out.mono HB.out.size))
        have zw7 := HB7.out.size
        have zx7 := HX7.out.lt
        obtain ⟨d0, d1, d2, d3, d4, d5, d6, d7⟩ := ic_cells (w := w7) (fun j u hu => (HB7.out.cell (p := ⟨b, o + k * 8 + j, none⟩) hb0).trans (HR.out.cell k i HI.out j u hu))
        have zb7 := Nat.lt_of_lt_of_le hb0 HB7.out.size
        have HO3 := Lib.hid (HO7.out.alloc (.cells #[.string i.id, .int .i64 i.r, .int .i64 i.c, .int .i64 i.st, .string i.kd, .int .i64 i.num, .complex .f64 i.x i.y, .bool i.d] 34))
        have HX3 := Lib.hid (HX7.out.alloc (.cells #[.string i.id, .int .i64 i.r, .int .i64 i.c, .int .i64 i.st, .string i.kd, .int .i64 i.num, .complex .f64 i.x i.y, .bool i.d] 34))
        have HB3 := Lib.hid (HB7.out.alloc zw7 (.cells #[.string i.id, .int .i64 i.r, .int .i64 i.c, .int .i64 i.st, .string i.kd, .int .i64 i.num, .complex .f64 i.x i.y, .bool i.d] 34))
        have hown : (w7.alloc (.cells #[.string i.id, .int .i64 i.r, .int .i64 i.c, .int .i64 i.st, .string i.kd, .int .i64 i.num, .complex .f64 i.x i.y, .bool i.d] 34)).ownsRow (w.heap.size + 1) 34 8 sv nk (cellsI ((l.take k).filter (fun i => lsB i.id x.id))) := by rw [hnk]; exact HO3.out
        have HNK := Lib.hid hnk
        clear hnk
        go_wp2_with (at_builtin; refine wpList_append_lies _ (by rfl) _ _ _ (by rfl) (w.heap.size + 1) 34 i0 _ 8 88 Try.underlying28 hi hz0 hz1 hz2 rfl (by omega) sv nk (cellsI ((l.take k).filter (fun i => lsB i.id x.id))) (by rfl) hown ⟨w7.heap.size, 0, none⟩ 1 1 (ic i) (by rfl) (by rfl) newsI (itI_one i) (by omega) (by unfold maxLen; omega) (by omega) (by simp; omega) (w7.heap.size + 1) (by simp) ?_; intro g cap' w3 hown3 hgrow hat hlt3)
        have R1 := Lib.hid (OwnI.push hown3 (by rw [HNK.out]))
        have R2 := Lib.hid (below_push HO3.out HB3.out (by omega) hgrow HB3.out.size)
        have R3 := Lib.hid (HX3.out.grown hgrow (own_ne HO3.out (by omega)))
        clear hown hown3 hgrow hat
        go_roundw
        case rel => exact ⟨k + 1, _, by omega, by go_num, rfl, Lib.hid (by show OwnI _ _ ((l.take (k + 1)).filter (fun i => lsB i.id x.id)) _; rw [HF.out]; first | exact R1.out | (rw [← List.append_assoc]; exact R1.out)), R3, R2⟩
        case measure => simp [intOf]; omega
    · have e : len = k := by omega
      subst e
      have h1 := HO.out
      rw [List.take_of_length_le (by rw [HN.out]; omega)] at h1
      have HO := Lib.hid h1
      clear h1
      have l1 := HX.out.cell
      have zx := HX.out.lt
      have zw := HB.out.size
      have hfl : (l.filter (fun i => lsB i.id x.id)).length ≤ 10000 := by
        have h2 := List.length_filter_le (fun i => lsB i.id x.id) l
        have h3 := HN.out
        omega
      have HO3 := Lib.hid (HO.out.alloc (.cells #[.string x.id, .int .i64 x.r, .int .i64 x.c, .int .i64 x.st, .string x.kd, .int .i64 x.num, .complex .f64 x.x x.y, .bool x.d] 34))
      have HX3 := Lib.hid (HX.out.alloc (.cells #[.string x.id, .int .i64 x.r, .int .i64 x.c, .int .i64 x.st, .string x.kd, .int .i64 x.num, .complex .f64 x.x x.y, .bool x.d] 34))
      have HB3 := Lib.hid (HB.out.alloc zw (.cells #[.string x.id, .int .i64 x.r, .int .i64 x.c, .int .i64 x.st, .string x.kd, .int .i64 x.num, .complex .f64 x.x x.y, .bool x.d] 34))
      have hown : (wr.alloc (.cells #[.string x.id, .int .i64 x.r, .int .i64 x.c, .int .i64 x.st, .string x.kd, .int .i64 x.num, .complex .f64 x.x x.y, .bool x.d] 34)).ownsRow (w.heap.size + 1) 34 8 sv (l.filter (fun i => lsB i.id x.id)).length (cellsI (l.filter (fun i => lsB i.id x.id))) := HO3.out
      go_wp2_with (at_builtin; refine wpList_append_lies _ (by rfl) _ _ _ (by rfl) (w.heap.size + 1) 34 i0 _ 8 88 Try.underlying28 hi hz0 hz1 hz2 rfl (by omega) sv (l.filter (fun i => lsB i.id x.id)).length (cellsI (l.filter (fun i => lsB i.id x.id))) (by rfl) hown ⟨wr.heap.size, 0, none⟩ 1 1 (ic x) (by rfl) (by rfl) newsI (itI_one x) (by omega) (by unfold maxLen; omega) (by omega) (by simp; omega) (wr.heap.size + 1) (by simp) ?_; intro g cap' w3 hown3 hgrow hat hlt3)
      have R1 := Lib.hid (OwnI.push hown3 rfl)
      have R2 := Lib.hid (below_push HO3.out HB3.out (by omega) hgrow HB3.out.size)
      have R3 := Lib.hid (HX3.out.grown hgrow (own_ne HO3.out (by omega)))
      clear hown hown3 hgrow hat l1 HO HX HB HO3 HX3 HB3
      go_wp2_with fail
      go_loopw [5, 7] (fun lv iv wr => PutRel (fun k => (l.filter (fun i => lsB i.id x.id) ++ [x]) ++ (l.take k).filter (fun i => gtB i.id x.id)) len #[.string x.id, .int .i64 x.r, .int .i64 x.c, .int .i64 x.st, .string x.kd, .int .i64 x.num, .complex .f64 x.x x.y, .bool x.d] w lv iv wr) (fun _ iv _ => len - (intOf iv).toNat)
      case atStart => exact ⟨0, _, Nat.zero_le _, rfl, rfl, Lib.hid (by simpa using R1.out), R3, R2⟩
      case round =>
        obtain ⟨k, sv, hk, rfl, rfl, HO, HX, HB⟩ := hrel
        replace HO := Lib.hid (show OwnI wr (w.heap.size + 1) ((l.filter (fun i => lsB i.id x.id) ++ [x]) ++ (l.take k).filter (fun i => gtB i.id x.id)) sv from HO.out)
        by_cases hlt : k < len
        · obtain ⟨i, hi9⟩ : ∃ i, l[k]? = some i := ⟨_, List.getElem?_eq_getElem (by rw [HN.out]; exact hlt)⟩
          obtain ⟨rfl, hb0⟩ := HR.out.at0 (by rw [HN.out]; omega)
          obtain ⟨c0, c1, c2, c3, c4, c5, c6, c7⟩ := ic_cells (w := wr) (fun j u hu => (HB.out.cell (p := ⟨b, o + k * 8 + j, none⟩) hb0).trans (HR.out.cell k i hi9 j u hu))
          have zb := Nat.lt_of_lt_of_le hb0 HB.out.size
          have r0 := fun dd os => cell_regrown c0 dd os
          have LA := fun dd os o => HX.out.has.regrown dd os o
          have zw := HB.out.size
          have HI := Lib.hid hi9
          have zx := HX.out.lt
          have hk0 : (0 : Int) ≤ (k : Int) := by omega
          have hk1 : (k : Int) < (len : Int) := by omega
          clear c0 c1 c2 c3 c4 c5 c6 c7 hi9
          cases ht : gtB i.id x.id
          · have HF := Lib.hid (filt_skip (p := (fun i => gtB i.id x.id)) HI.out ht)
            have hg := ht
            unfold gtB at hg
            go_wp2_with fail
            refine wp_region_quiet_below (by kernel_rfl) (by kernel_rfl) ?_
            repeat (first | go_big_quiet_step (fail) | quiet_step (fail))
            refine wpQuiet_nil ?_
            intro w7 hw'
            have hb' := Lib.hid (regrown_below hw')
            clear hw'
            clear r0 LA
            have HO7 := Lib.hid (HO.out.later hb'.out)
            have HX7 := Lib.hid (HX.out.later hb'.out)
            have HB7 := Lib.hid (HB.out.trans (hb'.out.mono HB.out.size))
            go_wp2_with fail
            go_roundw
            case rel => exact ⟨k + 1, _, by omega, by go_num, rfl, Lib.hid (by show OwnI _ _ ((l.filter (fun i => lsB i.id x.id) ++ [x]) ++ (l.take (k + 1)).filter (fun i => gtB i.id x.id)) _; rw [HF.out]; exact HO7.out), HX7, HB7⟩
            case measure => simp [intOf]; omega
          · have HF := Lib.hid (filt_put (p := (fun i => gtB i.id x.id)) HI.out ht)
            have hg := ht
            unfold gtB at hg
            have hfl : ((l.filter (fun i => lsB i.id x.id) ++ [x]) ++ (l.take k).filter (fun i => gtB i.id x.id)).length ≤ 20001 := by
              have h1 := filt_len (p := (fun i => gtB i.id x.id)) (l := l) (k := k)
              have h2 := List.length_filter_le (fun i => lsB i.id x.id) l
              have h3 := HN.out
              try simp only [List.length_append, List.length_cons, List.length_nil] at *
              omega
            obtain ⟨nk, hnk⟩ : ∃ nk, nk = ((l.filter (fun i => lsB i.id x.id) ++ [x]) ++ (l.take k).filter (fun i => gtB i.id x.id)).length := ⟨_, rfl⟩
            rw [← hnk] at hfl
            go_wp2_with fail
            refine wp_region_quiet_below (by kernel_rfl) (by kernel_rfl) ?_
            repeat (first | go_big_quiet_step (fail) | quiet_step (fail))
            refine wpQuiet_nil ?_
            intro w7 hw'
            have hb' := Lib.hid (regrown_below hw')
            clear hw'
            clear r0 LA
            have HO7 := Lib.hid (HO.out.later hb'.out)
            have HX7 := Lib.hid (HX.out.later hb'.out)
            have HB7 := Lib.hid (HB.out.trans (hb'.out.mono HB.out.size))
            have zw7 := HB7.out.size
            have zx7 := HX7.out.lt
            obtain ⟨d0, d1, d2, d3, d4, d5, d6, d7⟩ := ic_cells (w := w7) (fun j u hu => (HB7.out.cell (p := ⟨b, o + k * 8 + j, none⟩) hb0).trans (HR.out.cell k i HI.out j u hu))
            have zb7 := Nat.lt_of_lt_of_le hb0 HB7.out.size
            have HO3 := Lib.hid (HO7.out.alloc (.cells #[.string i.id, .int .i64 i.r, .int .i64 i.c, .int .i64 i.st, .string i.kd, .int .i64 i.num, .complex .f64 i.x i.y, .bool i.d] 34))
            have HX3 := Lib.hid (HX7.out.alloc (.cells #[.string i.id, .int .i64 i.r, .int .i64 i.c, .int .i64 i.st, .string i.kd, .int .i64 i.num, .complex .f64 i.x i.y, .bool i.d] 34))
            have HB3 := Lib.hid (HB7.out.alloc zw7 (.cells #[.string i.id, .int .i64 i.r, .int .i64 i.c, .int .i64 i.st, .string i.kd, .int .i64 i.num, .complex .f64 i.x i.y, .bool i.d] 34))
            have hown : (w7.alloc (.cells #[.string i.id, .int .i64 i.r, .int .i64 i.c, .int .i64 i.st, .string i.kd, .int .i64 i.num, .complex .f64 i.x i.y, .bool i.d] 34)).ownsRow (w.heap.size + 1) 34 8 sv nk (cellsI ((l.filter (fun i => lsB i.id x.id) ++ [x]) ++ (l.take k).filter (fun i => gtB i.id x.id))) := by rw [hnk]; exact HO3.out
            have HNK := Lib.hid hnk
            clear hnk
            go_wp2_with (at_builtin; refine wpList_append_lies _ (by rfl) _ _ _ (by rfl) (w.heap.size + 1) 34 i0 _ 8 88 Try.underlying28 hi hz0 hz1 hz2 rfl (by omega) sv nk (cellsI ((l.filter (fun i => lsB i.id x.id) ++ [x]) ++ (l.take k).filter (fun i => gtB i.id x.id))) (by rfl) hown ⟨w7.heap.size, 0, none⟩ 1 1 (ic i) (by rfl) (by rfl) newsI (itI_one i) (by omega) (by unfold maxLen; omega) (by omega) (by simp; omega) (w7.heap.size + 1) (by simp) ?_; intro g cap' w3 hown3 hgrow hat hlt3)
            have R1 := Lib.hid (OwnI.push hown3 (by rw [HNK.out]))
            have R2 := Lib.hid (below_push HO3.out HB3.out (by omega) hgrow HB3.out.size)
            have R3 := Lib.hid (HX3.out.grown hgrow (own_ne HO3.out (by omega)))
            clear hown hown3 hgrow hat
            go_roundw
            case rel => exact ⟨k + 1, _, by omega, by go_num, rfl, Lib.hid (by show OwnI _ _ ((l.filter (fun i => lsB i.id x.id) ++ [x]) ++ (l.take (k + 1)).filter (fun i => gtB i.id x.id)) _; rw [HF.out]; first | exact R1.out | (rw [← List.append_assoc]; exact R1.out)), R3, R2⟩
            case measure => simp [intOf]; omega
        · have e : len = k := by omega
          subst e
          have h1 := HO.out
          rw [List.take_of_length_le (by rw [HN.out]; omega)] at h1
          have HO := Lib.hid h1
          clear h1
          go_wp2_with fail
          go_ret
          exact ⟨_, rfl, HO.out.mono (by omega), HB.out⟩

end Go.Proofs.Ytbojpdlidgmckaa
