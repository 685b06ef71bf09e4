/- Joined: Begins, ListKM, SizeB, StK, Part. -/
import Derived.Test.YthbjgfennclidaaGreatJ10
import Derived.Test.YthbjgfennclidaaGreatJ01
import Derived.Deep.CutBlock
import Derived.Deep.DeepCutAuto
import Derived.Test.YthbjgfennclidaaGreatJ09
import Derived.Deep.MidRow
import Derived.Laws.ResultCell
import Derived.Test.YthbjgfennclidaaGreatJ05
import Derived.Deep.RegionHeld3
import Derived.Deep.DrawnRows
/- Whether a text begins with another one: the document's answer, walked. -/
namespace Go.Proofs.YthbjgfennclidaaGreat
set_option linter.unusedVariables false
set_option linter.unusedSimpArgs false
set_option maxRecDepth 100000
open Go.RowKit
/-! ### begins -/
theorem beg_short {s t : ByteArray} {k : Nat} (h1 : s.size ≤ k) (h2 : k < t.size) : begB s t = false := by
  unfold begB
  cases h : t.data.toList.isPrefixOf s.data.toList with
  | false => rfl
  | true =>
    have h3 := (List.isPrefixOf_iff_prefix.1 h).length_le
    have e1 : t.data.toList.length = t.size := by simp
    have e2 : s.data.toList.length = s.size := by simp
    omega
theorem beg_step {s t : ByteArray} {k : Nat} (hs : k < s.size) (ht : k < t.size) (h : s.data.toList.take k = t.data.toList.take k) (e : s[k] = t[k]) : s.data.toList.take (k + 1) = t.data.toList.take (k + 1) := by
  rw [take_snoc s k hs, take_snoc t k ht, h, e]
theorem beg_diff {s t : ByteArray} {k : Nat} (hs : k < s.size) (ht : k < t.size) (e : s[k] ≠ t[k]) : begB s t = false := by
  unfold begB
  cases h : t.data.toList.isPrefixOf s.data.toList with
  | false => rfl
  | true =>
    obtain ⟨r, hr⟩ := List.isPrefixOf_iff_prefix.1 h
    have e1 : s.data.toList[k]? = t.data.toList[k]? := by
      rw [← hr, List.getElem?_append_left (by simpa using ht)]
    have e2 : s.data.toList[k]? = some s[k] := by
      rw [List.getElem?_eq_getElem (by simpa using hs)]; rfl
    have e3 : t.data.toList[k]? = some t[k] := by
      rw [List.getElem?_eq_getElem (by simpa using ht)]; rfl
    rw [e2, e3] at e1
    exact absurd (Option.some.inj e1) e
theorem beg_all {s t : ByteArray} (h : s.data.toList.take t.size = t.data.toList.take t.size) : begB s t = true := by
  unfold begB
  rw [List.isPrefixOf_iff_prefix]
  have e : t.data.toList.take t.size = t.data.toList := List.take_of_length_le (by simp)
  rw [e] at h
  exact ⟨s.data.toList.drop t.size, by rw [← h]; exact List.take_append_drop _ _⟩
set_option maxHeartbeats 1000000 in
theorem begins_calls (s t : ByteArray) (w : World) (hs : s.size ≤ maxLen) (ht : t.size ≤ maxLen) :
    Calls Tryz.prog 65 #[.string s, .string t] w fun e w' => e = .returned (.bool (begB s t)) ∧ Below w.heap.size w w' := by
  unfold maxLen at hs ht
  go_enter Tryz.func65, Tryz.ntmps65
  go_wp2_with fail
  go_loopw [5] (fun i wr => ∃ k : Nat, k ≤ t.size ∧ i = .int .i64 k ∧ Hid (s.data.toList.take k = t.data.toList.take k) ∧ Below w.heap.size w wr) (fun i _ => t.size - (intOf i).toNat)
  case atStart => exact ⟨0, Nat.zero_le _, rfl, by simp [Hid], Below.refl _ _⟩
  case round =>
    obtain ⟨k, hk, rfl, HS, hb⟩ := hrel
    have HB := Lib.hid hb
    clear hb
    by_cases hlt : k < t.size
    · by_cases hls : k < s.size
      · have d1 : decide ((s.size : Int) ≤ (k : Int)) = false := by simp; omega
        have k0 : (0 : Int) ≤ (k : Int) := by omega
        have k1 : (k : Int) < (s.size : Int) := by omega
        have k2 : (k : Int) < (t.size : Int) := by omega
        by_cases e : s[k] = t[k]
        · have HN := Lib.hid (beg_step hls hlt HS.out e)
          have d2 : ((s[k].toNat : Int) != (t[k].toNat : Int)) = false := by rw [e]; simp
          clear e
          go_wp2_with fail
          refine wp_region_quiet_below (by kernel_rfl) (by kernel_rfl) ?_
          repeat (first | go_big_quiet_step (fail) | quiet_step (fail))
          refine wpQuiet_nil ?_
          intro w7 hw'
          have hb' := Lib.hid (regrown_below hw')
          clear hw'
          go_wp2_with fail
          go_roundw
          case rel => exact ⟨k + 1, by omega, by go_num, HN.out, HB.out.trans (hb'.out.mono HB.out.size)⟩
          case measure => simp [intOf]; omega
        · have HZ := Lib.hid (beg_diff hls hlt e)
          have d2 : ((s[k].toNat : Int) != (t[k].toNat : Int)) = true := by
            rw [bne_iff_ne]; intro h; exact e (UInt8.toNat_inj.1 (by omega))
          clear e
          go_wp2_with fail
          refine wp_region_quiet_below (by kernel_rfl) (by kernel_rfl) ?_
          repeat (first | go_big_quiet_step (fail) | quiet_step (fail))
          refine wpQuiet_nil ?_
          intro w7 hw'
          have hb' := Lib.hid (regrown_below hw')
          clear hw'
          go_wp2_with fail
          go_ret
          exact ⟨ret_bool HZ.out.symm, HB.out.trans (hb'.out.mono HB.out.size)⟩
      · have d1 : decide ((s.size : Int) ≤ (k : Int)) = true := by simp; omega
        have HZ := Lib.hid (beg_short (s := s) (t := t) (k := k) (by omega) hlt)
        go_wp2_with fail
        refine wp_region_quiet_below (by kernel_rfl) (by kernel_rfl) ?_
        repeat (first | go_big_quiet_step (fail) | quiet_step (fail))
        refine wpQuiet_nil ?_
        intro w7 hw'
        have hb' := Lib.hid (regrown_below hw')
        clear hw'
        go_wp2_with fail
        go_ret
        exact ⟨ret_bool HZ.out.symm, HB.out.trans (hb'.out.mono HB.out.size)⟩
    · have e : k = t.size := by omega
      subst e
      have HZ := Lib.hid (beg_all HS.out)
      go_wp2_with fail
      go_ret
      exact ⟨ret_bool HZ.out.symm, HB.out⟩
end Go.Proofs.YthbjgfennclidaaGreat
/- ListKeeps: its mathematics. No walk. -/
namespace Go.Proofs.YthbjgfennclidaaGreat
set_option linter.unusedVariables false
set_option linter.unusedSimpArgs false
set_option maxRecDepth 100000
open Go.RowKit
theorem mayLB_iff {l : List Itm} : mayLB l = true ↔ (∀ i ∈ l, mayT i = true) ∧ RiseI l := by
  unfold mayLB
  rw [Bool.and_eq_true, rises_rise, List.all_eq_true]
theorem eqT_may {i : Itm} (h : mayT i = true) : eqT i i = true := eqT_self (mayT_feq h).1 (mayT_feq h).2
def Ways (same : Bool) (had kept all other : Itm) (was is there beside : Bool) : Prop :=
  (was = false ∧ is = false ∧ beside = false ∧ there = false) ∨
  (was = true ∧ beside = false ∧ there = true ∧ all = had ∧ eqT had had = true ∧ ((same = true ∧ is = false) ∨ (same = false ∧ is = true ∧ kept = had))) ∨
  (was = false ∧ is = false ∧ beside = true ∧ there = true ∧ all = other ∧ eqT other other = true) ∨
  (was = true ∧ beside = true ∧ there = true ∧ eqT had had = true ∧ eqT other other = true ∧ ((behT other had = true ∧ all = other) ∨ (behT other had = false ∧ all = had)) ∧ ((same = true ∧ is = false) ∨ (same = false ∧ is = true ∧ kept = had)))
theorem ways {a b : List Itm} {c : Itm} (ha : mayLB a = true) (hb : mayLB b = true) (id : ByteArray) :
    Ways (id.toList == c.id.toList) (getI a id).1 (getI ((putI a c).filter (neB c.id)) id).1 (getI (bothI behT a b) id).1 (getI b id).1 (getI a id).2 (getI ((putI a c).filter (neB c.id)) id).2 (getI (bothI behT a b) id).2 (getI b id).2 := by
  rw [mayLB_iff] at ha hb
  have hd : getI ((putI a c).filter (neB c.id)) id = if id = c.id then (Itm.zero, false) else getI a id := by
    rw [get_drop (put_rise ha.2)]
    split
    · rfl
    · rename_i h; rw [get_put ha.2, if_neg h]
  rw [hd, get_both b id ha.2 hb.2]
  have e2 : (id.toList == c.id.toList) = decide (id = c.id) := by
    cases h : (id.toList == c.id.toList)
    · rw [decide_eq_false (tl_ne.1 h)]
    · rw [decide_eq_true (tl_eq.1 h)]
  rw [e2]
  unfold Ways
  rcases get_cases a id with ⟨i, hi, _, e⟩ | ⟨_, e⟩ <;> rcases get_cases b id with ⟨j, hj, _, e'⟩ | ⟨_, e'⟩ <;> rw [e, e'] <;> by_cases hq : id = c.id
  · cases h : behT j i <;> simp [hq, h, eqT_may (ha.1 i hi), eqT_may (hb.1 j hj)]
  · cases h : behT j i <;> simp [hq, h, eqT_may (ha.1 i hi), eqT_may (hb.1 j hj)]
  · simp [hq, eqT_may (ha.1 i hi)]
  · simp [hq, eqT_may (ha.1 i hi)]
  · simp [hq, eqT_may (hb.1 j hj)]
  · simp [hq, eqT_may (hb.1 j hj)]
  · simp [hq]
  · simp [hq]
theorem RowAt.take {sz : Nat} {f : Itm → List Value} {w : World} {l : List Itm} {oa : Option Addr} {cap b o : Nat} (h : RowAt sz f w l oa cap b o) (k : Nat) : RowAt sz f w (l.take k) oa cap b o := by
  refine ⟨by rw [List.length_take]; have := h.len; omega, h.max, fun h0 => h.at0 (by rw [List.length_take] at h0; omega), fun j i hj => ?_, fun i hi => h.ok i (List.mem_of_mem_take hi)⟩
  rw [List.getElem?_take] at hj
  split at hj
  · exact h.cell j i hj
  · cases hj
theorem Row.take {sz : Nat} {f : Itm → List Value} {w : World} {l : List Itm} {oa : Option Addr} {n cap : Nat} (h : Row sz f w l (.slice oa n cap)) (k : Nat) : Row sz f w (l.take k) (.slice oa (l.take k).length cap) := by
  obtain ⟨oa', cap', b, o, e, hr⟩ := h
  cases e
  exact ⟨oa, cap, b, o, rfl, hr.take k⟩
theorem Row.cap {sz : Nat} {f : Itm → List Value} {w : World} {l : List Itm} {oa : Option Addr} {n cap : Nat} (h : Row sz f w l (.slice oa n cap)) : l.length ≤ cap ∧ cap ≤ maxLen := by
  obtain ⟨oa', cap', b, o, e, hr⟩ := h
  cases e
  exact ⟨hr.len, hr.max⟩
end Go.Proofs.YthbjgfennclidaaGreat
/- The loops' word of sizes and depths. No walk. -/
namespace Go.Proofs.YthbjgfennclidaaGreat
set_option linter.unusedVariables false
set_option linter.unusedSimpArgs false
set_option maxRecDepth 100000
open Go.RowKit
def SumRel (l : List Pr) (len : Nat) (f : List Pr → Nat) (w0 : World) (n i : Value) (wr : World) : Prop :=
  ∃ (k s : Nat), k ≤ len ∧ i = .int .i64 k ∧ n = .int .i64 s ∧ s ≤ 1000 ∧ Hid (s = f (l.take k)) ∧ Below w0.heap.size w0 wr
theorem lies_val {sz : Nat} {c : Pr → Value → List Value} {S : Nat → Prop} {w : World} {p : Pr} {v : Value} (h : Lies sz c S w p v) : ∃ oa cap, v = .slice oa p.kids.length cap := by
  obtain ⟨oa, cap, _, _, _, rfl, _⟩ := lies_slice h; exact ⟨oa, cap, rfl⟩
end Go.Proofs.YthbjgfennclidaaGreat
/- A whole variable stored, or loaded, at once. No walk. -/
namespace Go.Proofs.YthbjgfennclidaaGreat
set_option linter.unusedVariables false
set_option linter.unusedSimpArgs false
set_option maxRecDepth 100000
open Go.RowKit
def setArr (c : Array Value) (o : Nat) : List Value → Array Value
  | [] => c
  | v :: r => setArr (c.setIfInBounds o v) (o + 1) r
theorem setArr_size (vs : List Value) : ∀ (c : Array Value) (o : Nat), (setArr c o vs).size = c.size := by
  induction vs with
  | nil => intro c o; rfl
  | cons v r ih => intro c o; rw [setArr, ih]; simp
theorem setArr_get (vs : List Value) : ∀ (c : Array Value) (o j : Nat), j < c.size → (setArr c o vs)[j]? = if o ≤ j ∧ j < o + vs.length then vs[j - o]? else c[j]? := by
  induction vs with
  | nil => intro c o j hj; rw [setArr, if_neg (by simp only [List.length_nil]; omega)]
  | cons v r ih =>
    intro c o j hj
    rw [setArr, ih _ _ _ (by simpa using hj)]
    by_cases e : j = o
    · subst e
      rw [if_neg (by omega), if_pos (by simp)]
      simp [hj]
    · by_cases h : o + 1 ≤ j ∧ j < o + 1 + r.length
      · rw [if_pos h, if_pos (by simp only [List.length_cons]; omega)]
        rw [show j - o = (j - (o + 1)) + 1 by omega, List.getElem?_cons_succ]
      · rw [if_neg h, if_neg (by simp only [List.length_cons]; omega)]
        rw [Array.getElem?_setIfInBounds_ne (fun h' => e h'.symm)]
theorem setArr_all (c : Array Value) (vs : List Value) (h : vs.length = c.size) : setArr c 0 vs = vs.toArray := by
  apply Array.ext_getElem?
  intro j
  by_cases hj : j < c.size
  · rw [setArr_get vs c 0 j hj, if_pos (by omega)]; simp
  · rw [Array.getElem?_eq_none (by rw [setArr_size]; omega), Array.getElem?_eq_none (by simp; omega)]
theorem Own.setsAt {b : Nat} {t : TypeId} (vs : List Value) : ∀ {w : World} {c : Array Value} (o : Nat), Own w b c t → Own (w.setCells b o vs) b (setArr c o vs) t := by
  induction vs with
  | nil => intro w c o h; exact h
  | cons v r ih => intro w c o h; exact ih (o + 1) (h.set o v)
theorem Own.sets {w : World} {b : Nat} {c : Array Value} {t : TypeId} (h : Own w b c t) (vs : List Value) (hl : vs.length = c.size) : Own (w.setCells b 0 vs) b vs.toArray t := by
  rw [← setArr_all c vs hl]; exact h.setsAt vs 0
theorem Own.setsFar {b b' : Nat} {t : TypeId} {c : Array Value} (vs : List Value) : ∀ {w : World} (o : Nat), b' ≠ b → Own w b' c t → Own (w.setCells b o vs) b' c t := by
  induction vs with
  | nil => intro w o _ h; exact h
  | cons v r ih => intro w o hb h; exact ih (o + 1) hb (h.setFar _ _ hb)
theorem below_sets {b B : Nat} {a : World} (hB : B ≤ b) (vs : List Value) : ∀ {w : World} (o : Nat), Below B a w → Below B a (w.setCells b o vs) := by
  induction vs with
  | nil => intro w o h; exact h
  | cons v r ih => intro w o h; exact ih (o + 1) (h.setCell hB v)
theorem Own.there {w : World} {b : Nat} {c : Array Value} {t : TypeId} (h : Own w b c t) {n : Nat} (hn : n = c.size) : w.there b 0 n := fun j hj => by
  rw [Nat.zero_add, h.cell j]
  exact ⟨by rw [Array.getElem?_eq_getElem (by omega)]; rfl, h.free j⟩
theorem Own.range {w : World} {b : Nat} {l : List Value} {t : TypeId} (h : Own w b l.toArray t) : w.rangeAt b 0 l := fun j v hv => by
  rw [Nat.zero_add, h.cell j]; simpa using hv
theorem run_asAddr {P : Program} (a : Addr) (w : World) : (asAddr (.pointer (some a))).run P w = .ok a w := by simp [asAddr]
theorem ret_cell_tmp {P : Program} {fn : Func} {R : Ending → World → Prop} {a : Act} {w : World} {p u : Tmp} {ty : TypeId} {b : Nat} {l : List Value} {x : Value} {d : TypeDesc} (h : fn.results = #[.cell p ty, .tmp u])
    (hp : a.tmps.getD p undef = .pointer (some ⟨b, 0, none⟩)) (hx : a.tmps.getD u undef = x) (hc : w.rangeAt b 0 l) (hu : P.underlying ty = some d) (hd : d.isRow = true) (hi : (P.info? ty).map (·.size) = some l.length)
    (hdf : a.defers = []) (hR : R (.returned (.tuple #[.agg l.toArray, x])) w) : bodyPost P fn R .ret a w :=
  bodyPost_ret (by rw [results_cell_tmp h, hp, hx, run_asAddr]; simp only [Result.andThen_ok]; rw [run_loadVar_mid w b 0 ty l d hc hu hd hi]; rfl) hdf hR
theorem ret_cell {P : Program} {fn : Func} {R : Ending → World → Prop} {a : Act} {w : World} {p : Tmp} {ty : TypeId} {b : Nat} {l : List Value} {d : TypeDesc} (h : fn.results = #[.cell p ty])
    (hp : a.tmps.getD p undef = .pointer (some ⟨b, 0, none⟩)) (hc : w.rangeAt b 0 l) (hu : P.underlying ty = some d) (hd : d.isRow = true) (hi : (P.info? ty).map (·.size) = some l.length)
    (hdf : a.defers = []) (hR : R (.returned (.agg l.toArray)) w) : bodyPost P fn R .ret a w :=
  bodyPost_ret (by
    have e := run_loadVar_mid (P := P) w b 0 ty l d hc hu hd hi
    have hp2 : a.tmps[p]?.getD undef = .pointer (some ⟨b, 0, none⟩) := by rw [← hp]; simp
    simp only [results, h]
    simp [Sem.run_bind, hp2, run_asAddr, e]) hdf hR
end Go.Proofs.YthbjgfennclidaaGreat
/- Whether a filter's own part may be: the walks over the code's checks. -/
namespace Go.Proofs.YthbjgfennclidaaGreat
set_option linter.unusedVariables false
set_option linter.unusedSimpArgs false
set_option maxRecDepth 100000
open Go.RowKit
def inW (n a b : Int) : Bool := decide (a ≤ n) && decide (n ≤ b)
set_option maxHeartbeats 400000 in
theorem predWithin_calls (n a b : Int) (w : World) :
    Calls Tryz.prog 195 #[.int .i64 n, .int .i64 a, .int .i64 b] w fun e w' => e = .returned (.bool (inW n a b)) ∧ w = w' := by
  unfold inW
  by_cases h : a ≤ n <;> by_cases h' : n ≤ b <;>
  ( go_enter Tryz.func195, Tryz.ntmps195
    go_wp2
    go_ret
    exact ⟨ret_bool (by simp [h, h']), rfl⟩ )
theorem txt_empty : txtB ⟨#[]⟩ = true := by decide
set_option maxHeartbeats 400000 in
theorem predText_calls (s : ByteArray) (w : World) :
    Calls Tryz.prog 194 #[.string s] w fun e w' => e = .returned (.bool (txtB s)) ∧ w = w' := by
  have H := Lib.hid (name_calls s w)
  by_cases h : s.size = 0
  · have e := size_zero_lit s h
    subst e
    rw [txt_empty]
    go_enter Tryz.func194, Tryz.ntmps194
    go_wp2
    go_ret
    exact ⟨rfl, rfl⟩
  · have e : nameB s = txtB s := by simp [nameB]; omega
    rw [e] at H
    clear e
    have h1 : s.toList ≠ [] := by
      intro hz
      exact h (by have := congrArg List.length hz; rw [toList_size] at this; simpa using this)
    have h2 : s.toList.isEmpty = false := by rw [List.isEmpty_eq_false_iff]; exact h1
    generalize txtB s = r at *
    clear h
    go_enter Tryz.func194, Tryz.ntmps194
    go_wp2_with (go_at_call 142; refine (H.out).mono ?_; rintro e w' ⟨rfl, rfl⟩)
    go_ret
    exact ⟨rfl, rfl⟩
theorem len_zero (k : Nat) : ((k : Int) == 0) = decide (k = 0) := by
  rw [Bool.eq_iff_iff]; simp
theorem len_one (k : Nat) : ((k : Int) == 1) = decide (k = 1) := by
  rw [Bool.eq_iff_iff]; simp; omega
set_option maxHeartbeats 1000000 in
theorem bare_calls (op : Int) (t : ByteArray) (n : Int) (x y : Nat) (oa : Option Addr) (len cap : Nat) (w : World) :
    Calls Tryz.prog 196 #[.agg #[.int .i64 op, .string t, .int .i64 n, .complex .f64 x y, .slice oa len cap]] w fun e w' => e = .returned (.bool (Pr.bareB t n x y len)) ∧ Below w.heap.size w w' := by
  have f1 : ∀ x y, (FloatKind.f64.format.order x y == some .eq) = feq x y := fun _ _ => rfl
  go_enter Tryz.func196, Tryz.ntmps196
  go_wp2
  all_goals
    go_ret
    exact ⟨ret_bool (by simp_all [Pr.bareB, len_zero]), (Below.refl _ _).alloc (Nat.le_refl _) _⟩
attribute [local go_sem ↓] Go.wp_at_zero Go.wp_at_succ
set_option maxHeartbeats 4000000 in
theorem predPart_calls (op : Int) (t : ByteArray) (n : Int) (x y : Nat) (oa : Option Addr) (len cap : Nat) (w : World) :
    Calls Tryz.prog 147 #[.agg #[.int .i64 op, .string t, .int .i64 n, .complex .f64 x y, .slice oa len cap]] w fun e w' => e = .returned (.bool (Pr.partB op t n x y len)) ∧ Below w.heap.size w w' := by
  have HB := fun op t n x y oa len cap w => Lib.hid (bare_calls op t n x y oa len cap w)
  have HT := fun w => Lib.hid (predText_calls t w)
  have HW := fun a b w => Lib.hid (predWithin_calls n a b w)
  have HM := fun w => Lib.hid (may_calls x y w)
  have hop : op = 1 ∨ op = 2 ∨ op = 3 ∨ op = 4 ∨ op = 5 ∨ op = 6 ∨ op = 7 ∨ op = 8 ∨ op = 9 ∨ op = 10 ∨ (op ≠ 1 ∧ op ≠ 2 ∧ op ≠ 3 ∧ op ≠ 4 ∧ op ≠ 5 ∧ op ≠ 6 ∧ op ≠ 7 ∧ op ≠ 8 ∧ op ≠ 9 ∧ op ≠ 10) := by omega
  rcases hop with rfl | rfl | rfl | rfl | rfl | rfl | rfl | rfl | rfl | rfl | ⟨n1, n2, n3, n4, n5, n6, n7, n8, n9, n10⟩
  · have e : Pr.partB 1 t n x y len = Pr.bareB t n x y len := by simp [Pr.partB, inW]
    rw [e]
    clear e
    go_enter Tryz.func147, Tryz.ntmps147
    go_wp2_with fail
    go_region_held3 (fun w' => w'.cell? ⟨w.heap.size, 0, none⟩ = some (.int .i64 1) ∧ w'.cell? ⟨w.heap.size, 1, none⟩ = some (.string t) ∧ w'.cell? ⟨w.heap.size, 2, none⟩ = some (.int .i64 n) ∧ w'.cell? ⟨w.heap.size, 3, none⟩ = some (.complex .f64 x y) ∧ w'.cell? ⟨w.heap.size, 4, none⟩ = some (.slice oa len cap)) (go_keep) (fail)
    go_wp2_with (first
      | (go_at_call 194; refine (HT _).out.mono ?_; rintro e w' ⟨rfl, rfl⟩)
      | (go_at_call 195; refine (HW _ _ _).out.mono ?_; rintro e w' ⟨rfl, rfl⟩)
      | (go_at_call 146; refine (HM _).out.mono ?_; rintro e w' ⟨rfl, rfl⟩)
      | (go_at_call 196; refine (HB _ _ _ _ _ _ _ _ _).out.mono ?_; rintro e w' ⟨rfl, hb⟩))
    all_goals
      go_ret
      refine ⟨ret_bool (by simp_all), ?_⟩
      clear HB HT HW HM
      first
        | (refine below_then ?_ hb ?_
           · repeat (first | exact Below.refl _ _ | (refine Below.setCell ?_ (by simp) _) | (refine Below.alloc ?_ (by simp) _) | refine Below.drew ?_)
           · (simp; try omega))
        | (repeat (first | exact Below.refl _ _ | (refine Below.setCell ?_ (by simp) _) | (refine Below.alloc ?_ (by simp) _) | refine Below.drew ?_))
  · have e : Pr.partB 2 t n x y len = Pr.bareB t n x y len := by simp [Pr.partB, inW]
    rw [e]
    clear e
    go_enter Tryz.func147, Tryz.ntmps147
    go_wp2_with fail
    go_region_held3 (fun w' => w'.cell? ⟨w.heap.size, 0, none⟩ = some (.int .i64 2) ∧ w'.cell? ⟨w.heap.size, 1, none⟩ = some (.string t) ∧ w'.cell? ⟨w.heap.size, 2, none⟩ = some (.int .i64 n) ∧ w'.cell? ⟨w.heap.size, 3, none⟩ = some (.complex .f64 x y) ∧ w'.cell? ⟨w.heap.size, 4, none⟩ = some (.slice oa len cap)) (go_keep) (fail)
    go_wp2_with (first
      | (go_at_call 194; refine (HT _).out.mono ?_; rintro e w' ⟨rfl, rfl⟩)
      | (go_at_call 195; refine (HW _ _ _).out.mono ?_; rintro e w' ⟨rfl, rfl⟩)
      | (go_at_call 146; refine (HM _).out.mono ?_; rintro e w' ⟨rfl, rfl⟩)
      | (go_at_call 196; refine (HB _ _ _ _ _ _ _ _ _).out.mono ?_; rintro e w' ⟨rfl, hb⟩))
    all_goals
      go_ret
      refine ⟨ret_bool (by simp_all), ?_⟩
      clear HB HT HW HM
      first
        | (refine below_then ?_ hb ?_
           · repeat (first | exact Below.refl _ _ | (refine Below.setCell ?_ (by simp) _) | (refine Below.alloc ?_ (by simp) _) | refine Below.drew ?_)
           · (simp; try omega))
        | (repeat (first | exact Below.refl _ _ | (refine Below.setCell ?_ (by simp) _) | (refine Below.alloc ?_ (by simp) _) | refine Below.drew ?_))
  · have e : Pr.partB 3 t n x y len = (txtB t && Pr.bareB ⟨#[]⟩ n x y len) := by simp [Pr.partB, inW]
    rw [e]
    clear e
    generalize txtB t = r1 at *
    go_enter Tryz.func147, Tryz.ntmps147
    go_wp2_with fail
    go_region_held3 (fun w' => w'.cell? ⟨w.heap.size, 0, none⟩ = some (.int .i64 3) ∧ w'.cell? ⟨w.heap.size, 1, none⟩ = some (.string t) ∧ w'.cell? ⟨w.heap.size, 2, none⟩ = some (.int .i64 n) ∧ w'.cell? ⟨w.heap.size, 3, none⟩ = some (.complex .f64 x y) ∧ w'.cell? ⟨w.heap.size, 4, none⟩ = some (.slice oa len cap)) (go_keep) (fail)
    go_wp2_with (first
      | (go_at_call 194; refine (HT _).out.mono ?_; rintro e w' ⟨rfl, rfl⟩)
      | (go_at_call 195; refine (HW _ _ _).out.mono ?_; rintro e w' ⟨rfl, rfl⟩)
      | (go_at_call 146; refine (HM _).out.mono ?_; rintro e w' ⟨rfl, rfl⟩)
      | (go_at_call 196; refine (HB _ _ _ _ _ _ _ _ _).out.mono ?_; rintro e w' ⟨rfl, hb⟩))
    all_goals
      go_ret
      refine ⟨ret_bool (by simp_all), ?_⟩
      clear HB HT HW HM
      first
        | (refine below_then ?_ hb ?_
           · repeat (first | exact Below.refl _ _ | (refine Below.setCell ?_ (by simp) _) | (refine Below.alloc ?_ (by simp) _) | refine Below.drew ?_)
           · (simp; try omega))
        | (repeat (first | exact Below.refl _ _ | (refine Below.setCell ?_ (by simp) _) | (refine Below.alloc ?_ (by simp) _) | refine Below.drew ?_))
  · have e : Pr.partB 4 t n x y len = (txtB t && Pr.bareB ⟨#[]⟩ n x y len) := by simp [Pr.partB, inW]
    rw [e]
    clear e
    generalize txtB t = r1 at *
    go_enter Tryz.func147, Tryz.ntmps147
    go_wp2_with fail
    go_region_held3 (fun w' => w'.cell? ⟨w.heap.size, 0, none⟩ = some (.int .i64 4) ∧ w'.cell? ⟨w.heap.size, 1, none⟩ = some (.string t) ∧ w'.cell? ⟨w.heap.size, 2, none⟩ = some (.int .i64 n) ∧ w'.cell? ⟨w.heap.size, 3, none⟩ = some (.complex .f64 x y) ∧ w'.cell? ⟨w.heap.size, 4, none⟩ = some (.slice oa len cap)) (go_keep) (fail)
    go_wp2_with (first
      | (go_at_call 194; refine (HT _).out.mono ?_; rintro e w' ⟨rfl, rfl⟩)
      | (go_at_call 195; refine (HW _ _ _).out.mono ?_; rintro e w' ⟨rfl, rfl⟩)
      | (go_at_call 146; refine (HM _).out.mono ?_; rintro e w' ⟨rfl, rfl⟩)
      | (go_at_call 196; refine (HB _ _ _ _ _ _ _ _ _).out.mono ?_; rintro e w' ⟨rfl, hb⟩))
    all_goals
      go_ret
      refine ⟨ret_bool (by simp_all), ?_⟩
      clear HB HT HW HM
      first
        | (refine below_then ?_ hb ?_
           · repeat (first | exact Below.refl _ _ | (refine Below.setCell ?_ (by simp) _) | (refine Below.alloc ?_ (by simp) _) | refine Below.drew ?_)
           · (simp; try omega))
        | (repeat (first | exact Below.refl _ _ | (refine Below.setCell ?_ (by simp) _) | (refine Below.alloc ?_ (by simp) _) | refine Below.drew ?_))
  · have e : Pr.partB 5 t n x y len = (inW n (-1000000) 1000000 && Pr.bareB t 0 x y len) := by simp [Pr.partB, inW]
    rw [e]
    clear e
    have HW := fun w => Lib.hid (predWithin_calls n (-1000000) 1000000 w)
    generalize inW n (-1000000) 1000000 = r1 at *
    go_enter Tryz.func147, Tryz.ntmps147
    go_wp2_with fail
    go_region_held3 (fun w' => w'.cell? ⟨w.heap.size, 0, none⟩ = some (.int .i64 5) ∧ w'.cell? ⟨w.heap.size, 1, none⟩ = some (.string t) ∧ w'.cell? ⟨w.heap.size, 2, none⟩ = some (.int .i64 n) ∧ w'.cell? ⟨w.heap.size, 3, none⟩ = some (.complex .f64 x y) ∧ w'.cell? ⟨w.heap.size, 4, none⟩ = some (.slice oa len cap)) (go_keep) (fail)
    go_wp2_with (first
      | (go_at_call 194; refine (HT _).out.mono ?_; rintro e w' ⟨rfl, rfl⟩)
      | (go_at_call 195; refine (HW _).out.mono ?_; rintro e w' ⟨rfl, rfl⟩)
      | (go_at_call 146; refine (HM _).out.mono ?_; rintro e w' ⟨rfl, rfl⟩)
      | (go_at_call 196; refine (HB _ _ _ _ _ _ _ _ _).out.mono ?_; rintro e w' ⟨rfl, hb⟩))
    all_goals
      go_ret
      refine ⟨ret_bool (by simp_all), ?_⟩
      clear HB HT HW HM
      first
        | (refine below_then ?_ hb ?_
           · repeat (first | exact Below.refl _ _ | (refine Below.setCell ?_ (by simp) _) | (refine Below.alloc ?_ (by simp) _) | refine Below.drew ?_)
           · (simp; try omega))
        | (repeat (first | exact Below.refl _ _ | (refine Below.setCell ?_ (by simp) _) | (refine Below.alloc ?_ (by simp) _) | refine Below.drew ?_))
  · have e : Pr.partB 6 t n x y len = (inW n (-1000000) 1000000 && Pr.bareB t 0 x y len) := by simp [Pr.partB, inW]
    rw [e]
    clear e
    have HW := fun w => Lib.hid (predWithin_calls n (-1000000) 1000000 w)
    generalize inW n (-1000000) 1000000 = r1 at *
    go_enter Tryz.func147, Tryz.ntmps147
    go_wp2_with fail
    go_region_held3 (fun w' => w'.cell? ⟨w.heap.size, 0, none⟩ = some (.int .i64 6) ∧ w'.cell? ⟨w.heap.size, 1, none⟩ = some (.string t) ∧ w'.cell? ⟨w.heap.size, 2, none⟩ = some (.int .i64 n) ∧ w'.cell? ⟨w.heap.size, 3, none⟩ = some (.complex .f64 x y) ∧ w'.cell? ⟨w.heap.size, 4, none⟩ = some (.slice oa len cap)) (go_keep) (fail)
    go_wp2_with (first
      | (go_at_call 194; refine (HT _).out.mono ?_; rintro e w' ⟨rfl, rfl⟩)
      | (go_at_call 195; refine (HW _).out.mono ?_; rintro e w' ⟨rfl, rfl⟩)
      | (go_at_call 146; refine (HM _).out.mono ?_; rintro e w' ⟨rfl, rfl⟩)
      | (go_at_call 196; refine (HB _ _ _ _ _ _ _ _ _).out.mono ?_; rintro e w' ⟨rfl, hb⟩))
    all_goals
      go_ret
      refine ⟨ret_bool (by simp_all), ?_⟩
      clear HB HT HW HM
      first
        | (refine below_then ?_ hb ?_
           · repeat (first | exact Below.refl _ _ | (refine Below.setCell ?_ (by simp) _) | (refine Below.alloc ?_ (by simp) _) | refine Below.drew ?_)
           · (simp; try omega))
        | (repeat (first | exact Below.refl _ _ | (refine Below.setCell ?_ (by simp) _) | (refine Below.alloc ?_ (by simp) _) | refine Below.drew ?_))
  · have e : Pr.partB 7 t n x y len = ((mayB x y && inW n 0 8000000) && Pr.bareB t 0 0 0 len) := by simp [Pr.partB, inW]
    rw [e]
    clear e
    have HW := fun w => Lib.hid (predWithin_calls n 0 8000000 w)
    generalize inW n 0 8000000 = r1 at *
    generalize mayB x y = r2 at *
    go_enter Tryz.func147, Tryz.ntmps147
    go_wp2_with fail
    go_region_held3 (fun w' => w'.cell? ⟨w.heap.size, 0, none⟩ = some (.int .i64 7) ∧ w'.cell? ⟨w.heap.size, 1, none⟩ = some (.string t) ∧ w'.cell? ⟨w.heap.size, 2, none⟩ = some (.int .i64 n) ∧ w'.cell? ⟨w.heap.size, 3, none⟩ = some (.complex .f64 x y) ∧ w'.cell? ⟨w.heap.size, 4, none⟩ = some (.slice oa len cap)) (go_keep) (fail)
    go_wp2_with (first
      | (go_at_call 194; refine (HT _).out.mono ?_; rintro e w' ⟨rfl, rfl⟩)
      | (go_at_call 195; refine (HW _).out.mono ?_; rintro e w' ⟨rfl, rfl⟩)
      | (go_at_call 146; refine (HM _).out.mono ?_; rintro e w' ⟨rfl, rfl⟩)
      | (go_at_call 196; refine (HB _ _ _ _ _ _ _ _ _).out.mono ?_; rintro e w' ⟨rfl, hb⟩))
    all_goals
      go_ret
      refine ⟨ret_bool (by simp_all), ?_⟩
      clear HB HT HW HM
      first
        | (refine below_then ?_ hb ?_
           · repeat (first | exact Below.refl _ _ | (refine Below.setCell ?_ (by simp) _) | (refine Below.alloc ?_ (by simp) _) | refine Below.drew ?_)
           · (simp; try omega))
        | (repeat (first | exact Below.refl _ _ | (refine Below.setCell ?_ (by simp) _) | (refine Below.alloc ?_ (by simp) _) | refine Below.drew ?_))
  · have e : Pr.partB 8 t n x y len = Pr.bareB t n x y 0 := by simp [Pr.partB, inW]
    rw [e]
    clear e
    go_enter Tryz.func147, Tryz.ntmps147
    go_wp2_with fail
    go_region_held3 (fun w' => w'.cell? ⟨w.heap.size, 0, none⟩ = some (.int .i64 8) ∧ w'.cell? ⟨w.heap.size, 1, none⟩ = some (.string t) ∧ w'.cell? ⟨w.heap.size, 2, none⟩ = some (.int .i64 n) ∧ w'.cell? ⟨w.heap.size, 3, none⟩ = some (.complex .f64 x y) ∧ w'.cell? ⟨w.heap.size, 4, none⟩ = some (.slice oa len cap)) (go_keep) (fail)
    go_wp2_with (first
      | (go_at_call 194; refine (HT _).out.mono ?_; rintro e w' ⟨rfl, rfl⟩)
      | (go_at_call 195; refine (HW _ _ _).out.mono ?_; rintro e w' ⟨rfl, rfl⟩)
      | (go_at_call 146; refine (HM _).out.mono ?_; rintro e w' ⟨rfl, rfl⟩)
      | (go_at_call 196; refine (HB _ _ _ _ _ _ _ _ _).out.mono ?_; rintro e w' ⟨rfl, hb⟩))
    all_goals
      go_ret
      refine ⟨ret_bool (by simp_all), ?_⟩
      clear HB HT HW HM
      first
        | (refine below_then ?_ hb ?_
           · repeat (first | exact Below.refl _ _ | (refine Below.setCell ?_ (by simp) _) | (refine Below.alloc ?_ (by simp) _) | refine Below.drew ?_)
           · (simp; try omega))
        | (repeat (first | exact Below.refl _ _ | (refine Below.setCell ?_ (by simp) _) | (refine Below.alloc ?_ (by simp) _) | refine Below.drew ?_))
  · have e : Pr.partB 9 t n x y len = Pr.bareB t n x y 0 := by simp [Pr.partB, inW]
    rw [e]
    clear e
    go_enter Tryz.func147, Tryz.ntmps147
    go_wp2_with fail
    go_region_held3 (fun w' => w'.cell? ⟨w.heap.size, 0, none⟩ = some (.int .i64 9) ∧ w'.cell? ⟨w.heap.size, 1, none⟩ = some (.string t) ∧ w'.cell? ⟨w.heap.size, 2, none⟩ = some (.int .i64 n) ∧ w'.cell? ⟨w.heap.size, 3, none⟩ = some (.complex .f64 x y) ∧ w'.cell? ⟨w.heap.size, 4, none⟩ = some (.slice oa len cap)) (go_keep) (fail)
    go_wp2_with (first
      | (go_at_call 194; refine (HT _).out.mono ?_; rintro e w' ⟨rfl, rfl⟩)
      | (go_at_call 195; refine (HW _ _ _).out.mono ?_; rintro e w' ⟨rfl, rfl⟩)
      | (go_at_call 146; refine (HM _).out.mono ?_; rintro e w' ⟨rfl, rfl⟩)
      | (go_at_call 196; refine (HB _ _ _ _ _ _ _ _ _).out.mono ?_; rintro e w' ⟨rfl, hb⟩))
    all_goals
      go_ret
      refine ⟨ret_bool (by simp_all), ?_⟩
      clear HB HT HW HM
      first
        | (refine below_then ?_ hb ?_
           · repeat (first | exact Below.refl _ _ | (refine Below.setCell ?_ (by simp) _) | (refine Below.alloc ?_ (by simp) _) | refine Below.drew ?_)
           · (simp; try omega))
        | (repeat (first | exact Below.refl _ _ | (refine Below.setCell ?_ (by simp) _) | (refine Below.alloc ?_ (by simp) _) | refine Below.drew ?_))
  · have e : Pr.partB 10 t n x y len = (decide (len = 1) && Pr.bareB t n x y 0) := by simp [Pr.partB, inW]
    rw [e]
    clear e
    have f2 := len_one len
    generalize decide (len = 1) = r1 at *
    go_enter Tryz.func147, Tryz.ntmps147
    go_wp2_with fail
    go_region_held3 (fun w' => w'.cell? ⟨w.heap.size, 0, none⟩ = some (.int .i64 10) ∧ w'.cell? ⟨w.heap.size, 1, none⟩ = some (.string t) ∧ w'.cell? ⟨w.heap.size, 2, none⟩ = some (.int .i64 n) ∧ w'.cell? ⟨w.heap.size, 3, none⟩ = some (.complex .f64 x y) ∧ w'.cell? ⟨w.heap.size, 4, none⟩ = some (.slice oa len cap)) (go_keep) (fail)
    go_wp2_with (first
      | (go_at_call 194; refine (HT _).out.mono ?_; rintro e w' ⟨rfl, rfl⟩)
      | (go_at_call 195; refine (HW _ _ _).out.mono ?_; rintro e w' ⟨rfl, rfl⟩)
      | (go_at_call 146; refine (HM _).out.mono ?_; rintro e w' ⟨rfl, rfl⟩)
      | (go_at_call 196; refine (HB _ _ _ _ _ _ _ _ _).out.mono ?_; rintro e w' ⟨rfl, hb⟩))
    all_goals
      go_ret
      refine ⟨ret_bool (by simp_all), ?_⟩
      clear HB HT HW HM
      first
        | (refine below_then ?_ hb ?_
           · repeat (first | exact Below.refl _ _ | (refine Below.setCell ?_ (by simp) _) | (refine Below.alloc ?_ (by simp) _) | refine Below.drew ?_)
           · (simp; try omega))
        | (repeat (first | exact Below.refl _ _ | (refine Below.setCell ?_ (by simp) _) | (refine Below.alloc ?_ (by simp) _) | refine Below.drew ?_))
  · have e : Pr.partB op t n x y len = false := by simp [Pr.partB, n1, n2, n3, n4, n5, n6, n7, n8, n9, n10]
    rw [e]
    clear e
    go_enter Tryz.func147, Tryz.ntmps147
    go_wp2_with fail
    go_region_held3 (fun w' => w'.cell? ⟨w.heap.size, 0, none⟩ = some (.int .i64 op) ∧ w'.cell? ⟨w.heap.size, 1, none⟩ = some (.string t) ∧ w'.cell? ⟨w.heap.size, 2, none⟩ = some (.int .i64 n) ∧ w'.cell? ⟨w.heap.size, 3, none⟩ = some (.complex .f64 x y) ∧ w'.cell? ⟨w.heap.size, 4, none⟩ = some (.slice oa len cap)) (go_keep) (fail)
    go_wp2_with (first
      | (go_at_call 194; refine (HT _).out.mono ?_; rintro e w' ⟨rfl, rfl⟩)
      | (go_at_call 195; refine (HW _ _ _).out.mono ?_; rintro e w' ⟨rfl, rfl⟩)
      | (go_at_call 146; refine (HM _).out.mono ?_; rintro e w' ⟨rfl, rfl⟩)
      | (go_at_call 196; refine (HB _ _ _ _ _ _ _ _ _).out.mono ?_; rintro e w' ⟨rfl, hb⟩))
    all_goals
      go_ret
      refine ⟨rfl, ?_⟩
      repeat (first | exact Below.refl _ _ | (refine Below.setCell ?_ (by simp) _) | (refine Below.alloc ?_ (by simp) _) | refine Below.drew ?_)
end Go.Proofs.YthbjgfennclidaaGreat
