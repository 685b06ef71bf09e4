/- Lists of items: whether two are the same, all of both: the document's answers, walked. -/
import Derived.Test.YtbojpdlidgmckaaRefList2
namespace Go.Proofs.Ytbojpdlidgmckaa
set_option linter.unusedVariables false
set_option linter.unusedSimpArgs false
open Go.RowKit

def sameL (f : Itm → Itm → Bool) : List Itm → List Itm → Bool
  | [], [] => true
  | a :: l, b :: m => f a b && sameL f l m
  | _, _ => false
theorem sameL_len {f : Itm → Itm → Bool} : ∀ {l m : List Itm}, l.length ≠ m.length → sameL f l m = false
  | [], [], h => absurd rfl h
  | [], _ :: _, _ => rfl
  | _ :: _, [], _ => rfl
  | a :: l, b :: m, h => by
    simp only [sameL, Bool.and_eq_false_iff]
    exact .inr (sameL_len fun e => h (by simp [e]))
theorem sameL_iff {f : Itm → Itm → Bool} : ∀ {l m : List Itm}, l.length = m.length → (sameL f l m = true ↔ ∀ (j : Nat) (a b : Itm), l[j]? = some a → m[j]? = some b → f a b = true)
  | [], [], _ => by simp [sameL]
  | [], _ :: _, h => by simp at h
  | _ :: _, [], h => by simp at h
  | a :: l, b :: m, h => by
    simp only [sameL, Bool.and_eq_true]
    rw [sameL_iff (by simpa using h)]
    constructor
    · rintro ⟨h1, h2⟩ j x y hx hy
      cases j with
      | zero => simp at hx hy; subst hx hy; exact h1
      | succ j => exact h2 j x y (by simpa using hx) (by simpa using hy)
    · intro h
      exact ⟨h 0 a b rfl rfl, fun j x y hx hy => h (j + 1) x y (by simpa using hx) (by simpa using hy)⟩
theorem sameL_at {f : Itm → Itm → Bool} {l m : List Itm} (hl : l.length = m.length) {j : Nat} {a b : Itm} (ha : l[j]? = some a) (hb : m[j]? = some b) (h : f a b = false) : sameL f l m = false := by
  cases e : sameL f l m with
  | false => rfl
  | true => rw [(sameL_iff hl).1 e j a b ha hb] at h; cases h
def PairRel (f : Itm → Itm → Bool) (l m : List Itm) (len : Nat) (w : World) (iv : Value) (wr : World) : Prop :=
  ∃ k : Nat, k ≤ len ∧ iv = .int .i64 k ∧ Hid (∀ j a b, j < k → l[j]? = some a → m[j]? = some b → f a b = true) ∧ Hid (Below w.heap.size w wr)

set_option maxRecDepth 100000 in
set_option maxHeartbeats 4000000 in
theorem sameList_calls (f : Itm → Itm → Bool) (HF : ∀ (a b : Itm) (w : World), Calls Try.prog 14 #[iV a, iV b] w fun e w' => e = .returned (.bool (f a b)) ∧ Below w.heap.size w w')
    (l m : List Itm) (v v' : Value) (w : World) (hR : Row 8 ic w l v) (hM : Row 8 ic w m v') :
    Calls Try.prog 26 #[v, v'] w fun e w' => e = .returned (.bool (sameL f l m)) ∧ Below w.heap.size w w' := by
  obtain ⟨oa, cap, b, o, rfl, hr⟩ := hR
  obtain ⟨oa', cap', b', o', rfl, hr'⟩ := hM
  have HR := Lib.hid hr
  have HR' := Lib.hid hr'
  have hcap := hr.len
  have hmax := hr.max
  have hcap' := hr'.len
  have hmax' := hr'.max
  unfold maxLen at hmax hmax'
  clear hr hr'
  generalize hres : sameL f l m = res at *
  have HRES := Lib.hid hres
  clear hres
  generalize hn : l.length = len at *
  have HN := Lib.hid hn
  generalize hn' : m.length = len' at *
  have HN' := Lib.hid hn'
  clear hn hn'
  by_cases hne : len = len'
  case neg =>
    have E := Lib.hid (show res = false by rw [← HRES.out]; exact sameL_len (by rw [HN.out, HN'.out]; exact hne))
    go_enter Try.func26, Try.ntmps26
    go_wp2_with fail
    go_ret
    exact ⟨ret_bool E.out.symm, Below.refl _ _⟩
  subst hne
  go_enter Try.func26, Try.ntmps26
  go_wp2_with fail
  go_loopw [5] (fun iv wr => PairRel f l m len w iv wr) (fun iv _ => len - (intOf iv).toNat)
  case atStart => exact ⟨0, Nat.zero_le _, rfl, fun j a b hj => absurd hj (by omega), Below.refl _ _⟩
  case round =>
    obtain ⟨k, hk, rfl, HS, HB⟩ := hrel
    by_cases hlt : k < len
    · obtain ⟨i, hi9⟩ : ∃ i, l[k]? = some i := ⟨_, List.getElem?_eq_getElem (by rw [HN.out]; omega)⟩
      obtain ⟨y, hy9⟩ : ∃ y, m[k]? = some y := ⟨_, List.getElem?_eq_getElem (by rw [HN'.out]; omega)⟩
      obtain ⟨rfl, hb0⟩ := HR.out.at0 (by rw [HN.out]; omega)
      obtain ⟨rfl, hb0'⟩ := HR'.out.at0 (by rw [HN'.out]; omega)
      obtain ⟨c0, c1, c2, c3, c4, c5, c6, c7⟩ := ic_cells (w := wr) (fun j u hu => (HB.out.cell (p := ⟨b, o + k * 8 + j, none⟩) hb0).trans (HR.out.cell k i hi9 j u hu))
      obtain ⟨d0, d1, d2, d3, d4, d5, d6, d7⟩ := ic_cells (w := wr) (fun j u hu => (HB.out.cell (p := ⟨b', o' + k * 8 + j, none⟩) hb0').trans (HR'.out.cell k y hy9 j u hu))
      have r0 := fun dd os => cell_regrown c0 dd os
      have r1 := fun dd os => cell_regrown c1 dd os
      have r2 := fun dd os => cell_regrown c2 dd os
      have r3 := fun dd os => cell_regrown c3 dd os
      have r4 := fun dd os => cell_regrown c4 dd os
      have r5 := fun dd os => cell_regrown c5 dd os
      have r6 := fun dd os => cell_regrown c6 dd os
      have r7 := fun dd os => cell_regrown c7 dd os
      have s0 := fun dd os => cell_regrown d0 dd os
      have s1 := fun dd os => cell_regrown d1 dd os
      have s2 := fun dd os => cell_regrown d2 dd os
      have s3 := fun dd os => cell_regrown d3 dd os
      have s4 := fun dd os => cell_regrown d4 dd os
      have s5 := fun dd os => cell_regrown d5 dd os
      have s6 := fun dd os => cell_regrown d6 dd os
      have s7 := fun dd os => cell_regrown d7 dd os
      have m1 := fun dd os => Lib.hid (Calls.regrown_of (HF i y (Sort.grow (redrawn wr dd) os)))
      have k0 : (0 : Int) ≤ (k : Int) := by omega
      have k1 : (k : Int) < (len : Int) := by omega
      have HI := Lib.hid hi9
      have HY := Lib.hid hy9
      clear hi9 hy9 c0 d0 c1 d1 c2 d2 c3 d3 c4 d4 c5 d5 c6 d6 c7 d7
      cases ht : f i y
      · have E := Lib.hid (show res = false by rw [← HRES.out]; exact sameL_at (by rw [HN.out, HN'.out]) HI.out HY.out ht)
        rw [ht] at m1
        clear ht
        go_wp2_with fail
        refine wp_region_quiet_below (by kernel_rfl) (by kernel_rfl) ?_
        repeat (first | go_big_quiet_step ((with_reducible exact (m1 _ _).out)) | quiet_step ((with_reducible exact (m1 _ _).out)))
        refine wpQuiet_nil ?_
        intro w7 hw'
        have hb' := Lib.hid (regrown_below hw')
        clear hw'
        clear m1
        go_wp2_with fail
        go_ret
        exact ⟨ret_bool E.out.symm, HB.out.trans (hb'.out.mono HB.out.size)⟩
      · have HS2 := Lib.hid (show ∀ j a b, j < k + 1 → l[j]? = some a → m[j]? = some b → f a b = true from fun j a b hj ha hb => by
          by_cases e : j = k
          · subst e; rw [HI.out] at ha; rw [HY.out] at hb; cases ha; cases hb; exact ht
          · exact HS.out j a b (by omega) ha hb)
        rw [ht] at m1
        clear ht
        go_wp2_with fail
        refine wp_region_quiet_below (by kernel_rfl) (by kernel_rfl) ?_
        repeat (first | go_big_quiet_step ((with_reducible exact (m1 _ _).out)) | quiet_step ((with_reducible exact (m1 _ _).out)))
        refine wpQuiet_nil ?_
        intro w7 hw'
        have hb' := Lib.hid (regrown_below hw')
        clear hw'
        clear m1 r0 s0 r1 s1 r2 s2 r3 s3 r4 s4 r5 s5 r6 s6 r7 s7
        go_wp2_with fail
        go_roundw
        case rel => exact ⟨k + 1, by omega, by go_num, HS2.out, Lib.hid (HB.out.trans (hb'.out.mono HB.out.size))⟩
        case measure => simp [intOf]; omega
    · have E := Lib.hid (show res = true by
        rw [← HRES.out, sameL_iff (by rw [HN.out, HN'.out])]
        exact fun j a b ha hb => HS.out j a b (by have := some_posI ha; rw [HN.out] at this; omega) ha hb)
      go_wp2_with fail
      go_ret
      exact ⟨ret_bool E.out.symm, HB.out⟩

set_option maxHeartbeats 1000000 in
theorem lawSame_calls (f : Itm → Itm → Bool) (HF : ∀ (a b : Itm) (w : World), Calls Try.prog 14 #[iV a, iV b] w fun e w' => e = .returned (.bool (f a b)) ∧ Below w.heap.size w w')
    (l m : List Itm) (v v' : Value) (w : World) (hR : Row 8 ic w l v) (hM : Row 8 ic w m v') {c : Bool} (hc : sameL f l m = c) :
    Calls Try.prog 15 #[v, v'] w fun e w' => e = .returned (.int .i64 (if c then 1 else 0)) ∧ Below w.heap.size w w' := by
  have C := sameList_calls f HF l m v v' w hR hM
  rw [hc] at C
  have C := Lib.hid C
  obtain ⟨oa, cap, b, o, rfl, hr⟩ := hR
  obtain ⟨oa', cap', b', o', rfl, hr'⟩ := hM
  clear hr hr' hc HF
  cases c
  all_goals
    go_enter Try.func15, Try.ntmps15
    go_wp2_with fail
    refine C.out.mono ?_; rintro e w2 ⟨rfl, hb2⟩
    go_wp2_with fail
    go_ret
    exact ⟨rfl, hb2⟩

/-! ### All of both -/
def stepI (f : Itm → Itm → Bool) (out : List Itm) (y : Itm) : List Itm := if (!(getI out y.id).2 || f y (getI out y.id).1) = true then putI out y else out
def bothI (f : Itm → Itm → Bool) (a b : List Itm) : List Itm := b.foldl (stepI f) a
theorem both_take {f : Itm → Itm → Bool} {a b : List Itm} {k : Nat} {y : Itm} (h : b[k]? = some y) : bothI f a (b.take (k + 1)) = stepI f (bothI f a (b.take k)) y := by
  unfold bothI; rw [takeI h, List.foldl_append]; rfl
theorem putI_len (l : List Itm) (x : Itm) : (putI l x).length ≤ l.length + 1 := by
  unfold putI
  simp only [List.length_append, List.length_cons, List.length_nil]
  have : (l.filter fun i => lsB i.id x.id).length + (l.filter fun i => gtB i.id x.id).length ≤ l.length := by
    induction l with
    | nil => simp
    | cons a l ih =>
      simp only [List.filter_cons]
      cases h1 : lsB a.id x.id
      · cases gtB a.id x.id <;> simp <;> omega
      · have h2 : gtB a.id x.id = false := by
          unfold gtB
          unfold lsB at h1
          rw [h1]; rfl
        rw [h2]
        simp
        omega
  omega
theorem put_mem {l : List Itm} {x i : Itm} (h : i ∈ putI l x) : i ∈ l ∨ i = x := by
  unfold putI at h
  simp only [List.mem_append, List.mem_filter, List.mem_cons, List.not_mem_nil, or_false] at h
  rcases h with (h | h) | h
  · exact .inl h.1
  · exact .inr h
  · exact .inl h.1
theorem step_len (f : Itm → Itm → Bool) (l : List Itm) (y : Itm) : (stepI f l y).length ≤ l.length + 1 := by
  unfold stepI; split
  · exact putI_len l y
  · omega
theorem step_mem {f : Itm → Itm → Bool} {l : List Itm} {y i : Itm} (h : i ∈ stepI f l y) : i ∈ l ∨ i = y := by
  unfold stepI at h; split at h
  · exact put_mem h
  · exact .inl h
def BothRel (F : Nat → List Itm) (len n0 : Nat) (w : World) (lv iv : Value) (wr : World) : Prop :=
  ∃ (k : Nat) (sv : Value), k ≤ len ∧ iv = .int .i64 k ∧ sv = lv ∧ Hid (Row 8 ic wr (F k) sv) ∧ Hid ((F k).length ≤ n0 + k) ∧ Hid (Below w.heap.size w wr)
theorem run_storeCells_nil {P : Program} (w : World) (a : Addr) : (storeCells a ([] : List Value)).run P w = .ok () w := by simp [storeCells]
attribute [local go_sem] run_storeCells_nil

set_option maxRecDepth 100000 in
set_option maxHeartbeats 8000000 in
theorem both_calls (f : Itm → Itm → Bool) (HF : ∀ (a b : Itm) (w : World), Calls Try.prog 23 #[iV a, iV b] w fun e w' => e = .returned (.bool (f a b)) ∧ Below w.heap.size w w')
    (l m : List Itm) (v v' : Value) (w : World) (hR : Row 8 ic w l v) (hM : Row 8 ic w m v') (h1 : l.length ≤ 1000) (h2 : m.length ≤ 1000) :
    Calls Try.prog 21 #[v, v'] w fun e w' => ∃ v2, e = .returned v2 ∧ Row 8 ic w' (bothI f l m) v2 ∧ Below w.heap.size w w' := by
  obtain ⟨oa, cap, b, o, rfl, hr⟩ := hR
  obtain ⟨oa', cap', b', o', rfl, hr'⟩ := hM
  obtain ⟨i0, hi, hz0, hz1, hz2⟩ := info_parts info_item
  have HR := Lib.hid hr
  have HR' := Lib.hid hr'
  have hcap := hr.len
  have hmax := hr.max
  have hcap' := hr'.len
  have hmax' := hr'.max
  unfold maxLen at hmax hmax'
  clear hr hr'
  generalize hn : l.length = len at *
  have HN := Lib.hid hn
  generalize hn' : m.length = len' at *
  have HN' := Lib.hid hn'
  clear hn hn'
  go_enter Try.func21, Try.ntmps21
  go_upto_region 1 with fail
  go_cut [5] (fun s5 wx => Hid (Row 8 ic wx l s5 ∧ Below w.heap.size w wx))
  case first =>
    have B1 := Lib.hid ((Below.refl w.heap.size w).alloc (Nat.le_refl _) (.cells #[] 34))
    by_cases hz : len = 0
    · subst hz
      have hl0 : l = [] := List.length_eq_zero_iff.1 HN.out
      have HZ := Lib.hid (show Row 8 ic (w.alloc (.cells #[] 34)) l (.slice (some ⟨w.heap.size, 0, none⟩) 0 0) by
        subst hl0
        exact ⟨_, 0, w.heap.size, 0, rfl, Nat.le_refl _, by decide, fun h => absurd h (by simp), fun k i h => by simp at h, fun i h => by simp at h⟩)
      clear hl0
      cases oa
      all_goals
        go_wp2_with fail
        go_meet
        exact ⟨HZ.out, B1.out⟩
    · obtain ⟨rfl, hb0⟩ := HR.out.at0 (by rw [HN.out]; omega)
      have O1 : OwnI (w.alloc (.cells #[] 34)) w.heap.size [] (.slice (some ⟨w.heap.size, 0, none⟩) 0 0) :=
        ⟨rfl, .inr ⟨w.heap.size, 0, #[], rfl, Nat.le_refl _, heap_alloc_new w _, Nat.le_refl _, by decide, rfl, rfl⟩⟩
      have HO1 := Lib.hid O1
      have hown : (w.alloc (.cells #[] 34)).ownsRow w.heap.size 34 8 (.slice (some ⟨w.heap.size, 0, none⟩) 0 0) 0 [] := O1
      clear O1
      have hcl := cellsI_len l
      rw [HN.out] at hcl
      have HL := Lib.hid hcl
      clear hcl
      have hone : ∀ u ∈ cellsI l, u.oneCell' = true := by
        intro u hu
        unfold cellsI at hu
        rw [List.mem_flatMap] at hu
        obtain ⟨i, _, hu⟩ := hu
        exact itI_one i u hu
      have HONE := Lib.hid hone
      clear hone
      go_wp2_with (at_builtin; refine wpList_append_lies _ (by rfl) _ _ _ (by rfl) w.heap.size 34 i0 _ 8 88 Try.underlying28 hi hz0 hz1 hz2 rfl (by omega) (.slice (some ⟨w.heap.size, 0, none⟩) 0 0) 0 [] (by rfl) hown ⟨b, o, none⟩ len cap (cellsI l) (by rfl) HL.out (rowI_news (HR.out.later ((Below.refl _ _).alloc (Nat.le_refl _) _)) HN.out) HONE.out (by omega) (by unfold maxLen; omega) (by omega) (by simp) (w.heap.size + 1) (by simp) ?_; intro g cap2 w3 hown3 hgrow hat hlt3)
      have R1 := Lib.hid (show OwnI w3 w.heap.size l (.slice (some ⟨g, 0, none⟩) len cap2) by
        unfold OwnI
        rw [HN.out]
        simpa using hown3)
      have R2 := Lib.hid (below_push HO1.out B1.out (Nat.le_refl _) hgrow B1.out.size)
      clear hown hown3 hgrow hat
      go_meet
      exact ⟨R1.out.row HR.out.ok, R2.out⟩
  case rest =>
    obtain ⟨hrow, hbel⟩ := hcut.out
    have HROW := Lib.hid hrow
    have HBEL := Lib.hid hbel
    clear hcut hrow hbel
    go_wp2_with fail
    go_loopw [5, 6] (fun lv iv wr => BothRel (fun k => bothI f l (m.take k)) len' len w lv iv wr) (fun _ iv _ => len' - (intOf iv).toNat)
    case atStart => exact ⟨0, _, Nat.zero_le _, rfl, rfl, by unfold Hid; exact HROW.out, by unfold Hid; show l.length ≤ _; rw [HN.out]; omega, HBEL⟩
    case round =>
      obtain ⟨k, sv, hk, rfl, rfl, HO, HLEN, HB⟩ := hrel
      replace HO := Lib.hid (show Row 8 ic wr (bothI f l (m.take k)) sv from HO.out)
      replace HLEN := Lib.hid (show (bothI f l (m.take k)).length ≤ len + k from HLEN.out)
      by_cases hlt : k < len'
      · obtain ⟨y, hy9⟩ : ∃ y, m[k]? = some y := ⟨_, List.getElem?_eq_getElem (by rw [HN'.out]; omega)⟩
        obtain ⟨rfl, hb0'⟩ := HR'.out.at0 (by rw [HN'.out]; omega)
        have hs := both_take (f := f) (a := l) hy9
        generalize bothI f l (m.take k) = out at *
        have HS := Lib.hid hs
        have HY := Lib.hid hy9
        obtain ⟨oo, co, bo, ofo, rfl, hro⟩ := HO.out
        have HRO := Lib.hid hro
        have GT := Lib.hid (refGet_calls out y.id (.slice oo out.length co) wr ⟨oo, co, bo, ofo, rfl, hro⟩)
        have hol := HLEN.out
        have hoc := hro.len
        have hom := hro.max
        unfold maxLen at hom
        generalize hgg : getI out y.id = g at *
        have HG := Lib.hid hgg
        have d0 := (ic_cells (w := wr) (fun j u hu => (HB.out.cell (p := ⟨b', o' + k * 8 + j, none⟩) hb0').trans (HR'.out.cell k y hy9 j u hu))).1
        have zb := Nat.lt_of_lt_of_le hb0' HB.out.size
        clear hs hy9 hro hgg
        go_wp2_with fail
        refine GT.out.mono ?_
        rintro e w2 ⟨rfl, hb2⟩
        have HB2 := Lib.hid (HB.out.trans (hb2.mono HB.out.size))
        have HRO2 := Lib.hid (HRO.out.later hb2)
        clear hb2 d0
        go_wp2_with fail
        have OH := Lib.hid (Own.new w2 #[.string g.1.id, .int .i64 g.1.r, .int .i64 g.1.c, .int .i64 g.1.st, .string g.1.kd, .int .i64 g.1.num, .complex .f64 g.1.x g.1.y, .bool g.1.d] 34)
        have HB3 := Lib.hid (HB2.out.alloc HB2.out.size (.cells #[.string g.1.id, .int .i64 g.1.r, .int .i64 g.1.c, .int .i64 g.1.st, .string g.1.kd, .int .i64 g.1.num, .complex .f64 g.1.x g.1.y, .bool g.1.d] 34))
        have HRO3 := Lib.hid (HRO2.out.later ((Below.refl _ _).alloc (Nat.le_refl _) (.cells #[.string g.1.id, .int .i64 g.1.r, .int .i64 g.1.c, .int .i64 g.1.st, .string g.1.kd, .int .i64 g.1.num, .complex .f64 g.1.x g.1.y, .bool g.1.d] 34)))
        generalize w2.heap.size = NH at *
        generalize w2.alloc (.cells #[.string g.1.id, .int .i64 g.1.r, .int .i64 g.1.c, .int .i64 g.1.st, .string g.1.kd, .int .i64 g.1.num, .complex .f64 g.1.x g.1.y, .bool g.1.d] 34) = w3 at *
        obtain ⟨d0, d1, d2, d3, d4, d5, d6, d7⟩ := ic_cells (w := w3) (fun j u hu => (HB3.out.cell (p := ⟨b', o' + k * 8 + j, none⟩) hb0').trans (HR'.out.cell k y HY.out j u hu))
        have r0 := fun dd os => cell_regrown d0 dd os
        have r1 := fun dd os => cell_regrown d1 dd os
        have r2 := fun dd os => cell_regrown d2 dd os
        have r3 := fun dd os => cell_regrown d3 dd os
        have r4 := fun dd os => cell_regrown d4 dd os
        have r5 := fun dd os => cell_regrown d5 dd os
        have r6 := fun dd os => cell_regrown d6 dd os
        have r7 := fun dd os => cell_regrown d7 dd os
        have LA := fun dd os o => OH.out.has.regrown dd os o
        have zb3 := Nat.lt_of_lt_of_le hb0' HB3.out.size
        have k0 : (0 : Int) ≤ (k : Int) := by omega
        have k1 : (k : Int) < (len' : Int) := by omega
        clear d0 d1 d2 d3 d4 d5 d6 d7
        have m1 := fun dd os => Lib.hid (Calls.regrown_of (HF y g.1 (Sort.grow (redrawn w3 dd) os)))
        have hsp : (!g.2 || f y g.1) = true → bothI f l (m.take (k + 1)) = putI out y := fun h => by rw [HS.out]; unfold stepI; rw [HG.out, if_pos h]
        have hsk : (!g.2 || f y g.1) = false → bothI f l (m.take (k + 1)) = out := fun h => by rw [HS.out]; unfold stepI; rw [HG.out, if_neg (by rw [h]; simp)]
        have HSP := Lib.hid hsp
        have HSK := Lib.hid hsk
        clear hsp hsk
        generalize f y g.1 = fy at *
        generalize hg2 : g.2 = g2 at *
        have hways : (g2 = false) ∨ (g2 = true ∧ fy = true) ∨ (g2 = true ∧ fy = false) := by cases g2 <;> cases fy <;> simp
        rcases hways with rfl | ⟨rfl, rfl⟩ | ⟨rfl, rfl⟩
        · go_wp2_with fail
          refine wp_region_quiet_below (by kernel_rfl) (by kernel_rfl) ?_
          repeat (first | go_big_quiet_step ((with_reducible exact (m1 _ _).out)) | quiet_step ((with_reducible exact (m1 _ _).out)))
          refine wpQuiet_nil ?_
          intro w7 hw'
          have hb' := Lib.hid (regrown_below hw')
          clear hw'
          clear m1 LA r0 r1 r2 r3 r4 r5 r6 r7
          have HB7 := Lib.hid (HB3.out.trans (hb'.out.mono HB3.out.size))
          have HRO7 := Lib.hid (HRO3.out.later hb'.out)
          have hst := HSP.out rfl
          have HST := Lib.hid hst
          clear hst
          obtain ⟨d0, d1, d2, d3, d4, d5, d6, d7⟩ := ic_cells (w := w7) (fun j u hu => (HB7.out.cell (p := ⟨b', o' + k * 8 + j, none⟩) hb0').trans (HR'.out.cell k y HY.out j u hu))
          have zb7 := Nat.lt_of_lt_of_le hb0' HB7.out.size
          have PT := Lib.hid (refPut_calls out y (.slice oo out.length co) w7 ⟨oo, co, bo, ofo, rfl, HRO7.out⟩ (by omega))
          go_wp2_with fail
          refine PT.out.mono ?_
          rintro e w8 ⟨v8, rfl, ho8, hb8⟩
          have HB8 := Lib.hid (HB7.out.trans (hb8.mono HB7.out.size))
          have HR8 := Lib.hid (ho8.row (fun i hi => by
            rcases put_mem hi with h | h
            · exact HRO7.out.ok i h
            · rw [h]; exact HR'.out.ok y (List.mem_of_getElem? HY.out)))
          clear ho8 hb8
          go_wp2_with fail
          go_roundw
          case rel => exact ⟨k + 1, _, by omega, by go_num, rfl, Lib.hid (by show Row 8 ic w8 (bothI f l (m.take (k + 1))) v8; rw [HST.out]; exact HR8.out), Lib.hid (by show (bothI f l (m.take (k + 1))).length ≤ _; rw [HST.out]; have := putI_len out y; omega), HB8⟩
          case measure => simp [intOf]; omega
        · go_wp2_with fail
          refine wp_region_quiet_below (by kernel_rfl) (by kernel_rfl) ?_
          repeat (first | go_big_quiet_step ((with_reducible exact (m1 _ _).out)) | quiet_step ((with_reducible exact (m1 _ _).out)))
          refine wpQuiet_nil ?_
          intro w7 hw'
          have hb' := Lib.hid (regrown_below hw')
          clear hw'
          clear m1 LA r0 r1 r2 r3 r4 r5 r6 r7
          have HB7 := Lib.hid (HB3.out.trans (hb'.out.mono HB3.out.size))
          have HRO7 := Lib.hid (HRO3.out.later hb'.out)
          have hst := HSP.out rfl
          have HST := Lib.hid hst
          clear hst
          obtain ⟨d0, d1, d2, d3, d4, d5, d6, d7⟩ := ic_cells (w := w7) (fun j u hu => (HB7.out.cell (p := ⟨b', o' + k * 8 + j, none⟩) hb0').trans (HR'.out.cell k y HY.out j u hu))
          have zb7 := Nat.lt_of_lt_of_le hb0' HB7.out.size
          have PT := Lib.hid (refPut_calls out y (.slice oo out.length co) w7 ⟨oo, co, bo, ofo, rfl, HRO7.out⟩ (by omega))
          go_wp2_with fail
          refine PT.out.mono ?_
          rintro e w8 ⟨v8, rfl, ho8, hb8⟩
          have HB8 := Lib.hid (HB7.out.trans (hb8.mono HB7.out.size))
          have HR8 := Lib.hid (ho8.row (fun i hi => by
            rcases put_mem hi with h | h
            · exact HRO7.out.ok i h
            · rw [h]; exact HR'.out.ok y (List.mem_of_getElem? HY.out)))
          clear ho8 hb8
          go_wp2_with fail
          go_roundw
          case rel => exact ⟨k + 1, _, by omega, by go_num, rfl, Lib.hid (by show Row 8 ic w8 (bothI f l (m.take (k + 1))) v8; rw [HST.out]; exact HR8.out), Lib.hid (by show (bothI f l (m.take (k + 1))).length ≤ _; rw [HST.out]; have := putI_len out y; omega), HB8⟩
          case measure => simp [intOf]; omega
        · go_wp2_with fail
          refine wp_region_quiet_below (by kernel_rfl) (by kernel_rfl) ?_
          repeat (first | go_big_quiet_step ((with_reducible exact (m1 _ _).out)) | quiet_step ((with_reducible exact (m1 _ _).out)))
          refine wpQuiet_nil ?_
          intro w7 hw'
          have hb' := Lib.hid (regrown_below hw')
          clear hw'
          clear m1 LA r0 r1 r2 r3 r4 r5 r6 r7
          have HB7 := Lib.hid (HB3.out.trans (hb'.out.mono HB3.out.size))
          have HRO7 := Lib.hid (HRO3.out.later hb'.out)
          have hst := HSK.out rfl
          have HST := Lib.hid hst
          clear hst
          go_wp2_with fail
          go_roundw
          case rel => exact ⟨k + 1, _, by omega, by go_num, rfl, Lib.hid (by show Row 8 ic w7 (bothI f l (m.take (k + 1))) _; rw [HST.out]; exact ⟨oo, co, bo, ofo, rfl, HRO7.out⟩), Lib.hid (by show (bothI f l (m.take (k + 1))).length ≤ _; rw [HST.out]; omega), HB7⟩
          case measure => simp [intOf]; omega
      · have e : len' = k := by omega
        subst e
        have h9 := HO.out
        rw [List.take_of_length_le (by rw [HN'.out]; omega)] at h9
        have H9 := Lib.hid h9
        clear h9
        go_wp2_with fail
        go_ret
        exact ⟨_, rfl, H9.out, HB.out⟩

end Go.Proofs.Ytbojpdlidgmckaa
