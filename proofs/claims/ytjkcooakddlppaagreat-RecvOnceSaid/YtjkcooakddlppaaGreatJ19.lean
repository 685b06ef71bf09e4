/- Joined: Pfx, KMap, LCmp, VecRep. -/
import Derived.Test.YtjkcooakddlppaaGreatJ10
import Derived.Test.YtjkcooakddlppaaGreatJ01
import Derived.Test.YtjkcooakddlppaaGreatJ07
import Derived.Test.YtjkcooakddlppaaGreatJ05
import Derived.Maps.OwnSet
import Derived.Test.YtjkcooakddlppaaGreatJ16
/- HasPrefix: the library's walks. -/
namespace Go.Proofs.YtjkcooakddlppaaGreat
set_option linter.unusedVariables false
set_option linter.unusedSimpArgs false
set_option maxRecDepth 100000
open Go.RowKit
/-! ### HasPrefix -/
theorem beg_false {s t : ByteArray} (h : s.size < t.size) : begB s t = false := by
  unfold begB
  cases h1 : t.data.toList.isPrefixOf s.data.toList with
  | false => rfl
  | true =>
    have h3 := (List.isPrefixOf_iff_prefix.1 h1).length_le
    have e1 : t.data.toList.length = t.size := by simp
    have e2 : s.data.toList.length = s.size := by simp
    omega
theorem beg_take {s t : ByteArray} (h : t.size ≤ s.size) : begB s t = (s.data.toList.take t.size == t.data.toList) := by
  unfold begB
  rw [Bool.eq_iff_iff, List.isPrefixOf_iff_prefix, beq_iff_eq, List.prefix_iff_eq_take]
  have e1 : t.data.toList.length = t.size := by simp
  rw [e1]
  exact eq_comm
set_option maxHeartbeats 1000000 in
theorem prefix1_calls (s t : ByteArray) (w : World) (hs : s.size ≤ maxLen) (ht : t.size ≤ maxLen) :
    Calls Tryz.prog 164 #[.string s, .string t] w fun e w' => e = .returned (.bool (begB s t)) ∧ w = w' := by
  unfold maxLen at hs ht
  by_cases h : t.size ≤ s.size
  · have E := Lib.hid (beg_take h)
    have h1 : (t.size : Int) ≤ (s.size : Int) := by omega
    go_enter Tryz.func164, Tryz.ntmps164
    go_wp2_with fail
    go_ret
    refine ⟨ret_bool ?_, rfl⟩
    rw [E.out]
    rw [ByteArray.toList_eq, ByteArray.toList_eq]
    simp [ByteArray.data_extract]
  · have E := Lib.hid (beg_false (s := s) (t := t) (by omega))
    have h1 : (s.size : Int) < (t.size : Int) := by omega
    go_enter Tryz.func164, Tryz.ntmps164
    go_wp2_with fail
    go_ret
    exact ⟨ret_bool E.out.symm, rfl⟩
theorem prefix_calls (s t : ByteArray) (w : World) (hs : s.size ≤ maxLen) (ht : t.size ≤ maxLen) :
    Calls Tryz.prog 141 #[.string s, .string t] w fun e w' => e = .returned (.bool (begB s t)) ∧ w = w' := by
  have H := Lib.hid (prefix1_calls s t w hs ht)
  go_enter Tryz.func141, Tryz.ntmps141
  go_wp2_with (go_at_call 164; refine (H.out).mono ?_; rintro e w' ⟨rfl, rfl⟩)
  go_ret
  exact ⟨rfl, rfl⟩
end Go.Proofs.YtjkcooakddlppaaGreat
/- The maps of the code's Plain: counts by Ids, places by counts. No walk. -/
namespace Go.Proofs.YtjkcooakddlppaaGreat
set_option linter.unusedVariables false
set_option linter.unusedSimpArgs false
set_option maxRecDepth 100000
open Go.RowKit Go.Maps
/-! ### Counts by Ids -/
abbrev heldR (v : Value) : Option (DataW Value × List MemPlace) := some (.held v, [])
abbrev keyL (s : ByteArray) : Lit := .string s.data.toList
theorem keyL_inj {s t : ByteArray} (h : keyL s = keyL t) : s = t := by
  simp only [keyL, Lit.string.injEq] at h
  cases s; cases t; simp at h; subst h; rfl
theorem keyL_of {s : ByteArray} (h : s.size ≤ maxLen) : keyOf Tryz.prog 9 (.string s) = some (keyL s) := by
  simp [keyOf, mapKey, Tryz.underlying9, h]
theorem lawS : Keyed Tryz.prog 9 := string_keyed Tryz.underlying9
theorem zeroVec (w : World) : (zeroValue 28).run Tryz.prog w = .ok (vecV zeroV) w := by kernel_rfl
def Cnt (w : World) (b nn : Nat) (ids : List ByteArray) (raw : ByteArray → Nat → Int) : Prop :=
  ∃ D : DataW Value, w.ownsMap Tryz.prog 9 heldR b nn D ∧ (∀ s, D.atKey (keyL s) (.held (vecV zeroV)) = .held (vecV (raw s))) ∧ (∀ s, Maps.has D (keyL s) = true ↔ s ∈ ids)
section
variable {w w' : World} {b nn : Nat} {ids : List ByteArray} {raw : ByteArray → Nat → Int}
theorem Cnt.made (w : World) : Cnt (w.alloc (.map #[] 0)) w.heap.size 0 [] (fun _ => zeroV) :=
  ⟨.map [], World.ownsMap_made _ _ _ _, fun s => by simp [DataW.atKey], fun s => by simp [Maps.has]⟩
theorem Cnt.lt (h : Cnt w b nn ids raw) : b < w.heap.size := by
  obtain ⟨D, h, _⟩ := h
  exact h.lt
theorem Cnt.later (h : Cnt w b nn ids raw) (hb : Below w.heap.size w w') : Cnt w' b nn ids raw := by
  have hlt := h.lt
  obtain ⟨D, ⟨es, clock, h1, F, h2, h3⟩, r⟩ := h
  exact ⟨D, ⟨es, clock, (hb.block b hlt).trans h1, F, h2, h3⟩, r⟩
theorem Cnt.look (h : Cnt w b nn ids raw) {s : ByteArray} (hs : s.size ≤ maxLen) : (Instr.lookup 155 (.map (some b)) (.string s) false).run Tryz.prog w = .ok (vecV (raw s)) w := by
  obtain ⟨D, ho, ha, _⟩ := h
  obtain ⟨v, ps, hrun, hv⟩ := ho.lookup lawS Tryz.underlying155 (zeroVec w) rfl (keyL_of hs)
  rw [ha] at hv
  simp only [heldR, Option.some.injEq, Prod.mk.injEq, DataW.held.injEq] at hv
  rw [hrun, hv.1]
theorem Cnt.put (h : Cnt w b nn ids raw) {s : ByteArray} (hs : s.size ≤ maxLen) (hn : nn < maxLen) (A : Nat → Int) : ∃ w', (Instr.mapUpdate 155 (.map (some b)) (.string s) (vecV A)).run Tryz.prog w = .ok () w' ∧
    Cnt w' b (nn + 1) (ids ++ [s]) (fun x => if x = s then A else raw x) ∧ w.grownBy w' (some b) := by
  obtain ⟨D, ho, ha, hh⟩ := h
  obtain ⟨w', hrun, h1, h2⟩ := ho.update lawS Tryz.underlying155 hn (val := vecV A) (keyL_of hs) rfl
  have hI := ho.isMap
  refine ⟨w', hrun, ⟨_, h1, fun x => ?_, fun x => ?_⟩, h2⟩
  · by_cases e : x = s
    · subst e
      rw [atKey_put_same hI (by exact trivial)]
      simp
    · rw [atKey_put_other (fun e' => e (keyL_inj e')), ha x]
      simp [e]
  · by_cases e : x = s
    · subst e
      rw [has_put_same hI (by exact trivial)]; simp
    · rw [has_put_other (fun e' => e (keyL_inj e')), hh x]; simp [e]
end
/-! ### Places by counts -/
def pcEs : Nat → List (Nat → Int) → List MapEntry
  | _, [] => []
  | i, A :: l => ⟨vecV A, .int .i64 (i : Int), i⟩ :: pcEs (i + 1) l
theorem pcEs_app (l m : List (Nat → Int)) : ∀ i, pcEs i (l ++ m) = pcEs i l ++ pcEs (i + l.length) m := by
  induction l with
  | nil => intro i; simp [pcEs]
  | cons a l ih => intro i; simp only [List.cons_append, pcEs, ih, List.length_cons]; rw [show i + 1 + l.length = i + (l.length + 1) by omega]
def Pcs (w : World) (b : Nat) (vs : List (Nat → Int)) : Prop := w.heap[b]? = some (.map (pcEs 0 vs).toArray vs.length)
theorem eqV_symm (A B : Nat → Int) : eqV A B = eqV B A := by
  cases h : eqV A B with
  | true => exact (eqV_iff.2 fun k hk => (eqV_iff.1 h k hk).symm).symm
  | false =>
    cases h' : eqV B A with
    | false => rfl
    | true => rw [eqV_iff.2 fun k hk => (eqV_iff.1 h' k hk).symm] at h; cases h
theorem equal7 (A B : Nat → Int) (w : World) : (Op.equal 28 (vecV A) (vecV B)).run Tryz.prog w = .ok (eqV A B) w := eqVec7 A B w
set_option maxHeartbeats 2000000 in
theorem check7 (em : Bool) (A : Nat → Int) (w : World) : (Instr.checkKey em 10000 28 (vecV A)).run Tryz.prog w = .ok () w := by
  have ju := Tryz.underlying3
  have ja := Tryz.isAgg3
  have jz := Tryz.sizeOf3
  rw [show (10000 : Nat) = 9999 + 1 from rfl, Instr.checkKey]
  simp only [Sem.run_bind, run_underlying Tryz.underlying28, Result.andThen_ok]
  have hk : ∀ n x w', (Instr.checkKey em (n + 1) 3 (.int .i64 x)).run Tryz.prog w' = .ok () w' := fun n x w' => MapKept.run_checkKey ju (by first | exact rfl | simp [MapKept.IsKey]) em n
  simp only [Std.Legacy.Range.forIn_eq_forIn_range', Std.Legacy.Range.size, Nat.sub_zero, Nat.add_sub_cancel, Nat.div_one, List.range'_succ, List.range'_zero, List.forIn_cons, List.forIn_nil]
  rw [show (9999 : Nat) = 9998 + 1 from rfl]
  go_simp
theorem ask_miss (A : Nat → Int) : ∀ (vs : List (Nat → Int)) (i j : Nat) (w : World), (∀ B ∈ vs, eqV B A = false) → (Instr.findAsking 28 (vecV A) (pcEs i vs) j).run Tryz.prog w = .ok none w
  | [], i, j, w, _ => by simp [pcEs, Instr.findAsking]
  | B :: vs, i, j, w, h => by
    have e := equal7 A B w
    rw [eqV_symm, h B (by simp)] at e
    simp only [pcEs, Instr.findAsking, Sem.run_bind, e, Result.andThen_ok]
    exact ask_miss A vs (i + 1) (j + 1) w fun C hC => h C (by simp [hC])
theorem ask_hit (A : Nat → Int) : ∀ (vs : List (Nat → Int)) (i j a : Nat) (w : World), (∀ k B, k < a → vs[k]? = some B → eqV B A = false) → (∃ B, vs[a]? = some B ∧ eqV B A = true) → (Instr.findAsking 28 (vecV A) (pcEs i vs) j).run Tryz.prog w = .ok (some (j + a, .int .i64 ((i + a : Nat) : Int))) w
  | [], i, j, a, w, _, h => by obtain ⟨B, h, _⟩ := h; simp at h
  | C :: vs, i, j, 0, w, _, h => by
    obtain ⟨B, hB, hq⟩ := h
    simp at hB; subst hB
    have e := equal7 A C w
    rw [eqV_symm, hq] at e
    simp [pcEs, Instr.findAsking, Sem.run_bind, e, Result.andThen_ok]
  | C :: vs, i, j, a + 1, w, hn, h => by
    have e := equal7 A C w
    rw [eqV_symm, hn 0 C (by omega) rfl] at e
    simp only [pcEs, Instr.findAsking, Sem.run_bind, e, Result.andThen_ok]
    have := ask_hit A vs (i + 1) (j + 1) a w (fun k B hk hB => hn (k + 1) B (by omega) (by simpa using hB)) (by obtain ⟨B, hB, hq⟩ := h; exact ⟨B, by simpa using hB, hq⟩)
    rw [show i + 1 + a = i + (a + 1) by omega, show j + 1 + a = j + (a + 1) by omega] at this
    exact this
theorem find7 (A : Nat → Int) (vs : List (Nat → Int)) (i : Nat) (w : World) {r : Option (Nat × Value)} (h : (Instr.findAsking 28 (vecV A) (pcEs i vs) 0).run Tryz.prog w = .ok r w) : (Instr.findKey 28 (vecV A) (pcEs i vs)).run Tryz.prog w = .ok r w := by
  unfold Instr.findKey
  simp only [Sem.run_bind, run_underlying Tryz.underlying28, Result.andThen_ok]
  cases vs with
  | nil => simp [pcEs, Instr.findNow, Instr.findAsking] at *; exact h
  | cons B vs => simp only [pcEs, Instr.findNow, Instr.sameNow] at *; exact h
section
variable {w w' : World} {b : Nat} {vs : List (Nat → Int)}
theorem Pcs.made (w : World) : Pcs (w.alloc (.map #[] 0)) w.heap.size [] := (MapKept.heap_alloc w _).1
theorem Pcs.lt (h : Pcs w b vs) : b < w.heap.size := (Array.getElem?_eq_some_iff.1 h).1
theorem Pcs.later (h : Pcs w b vs) (hb : Below w.heap.size w w') : Pcs w' b vs := (hb.block b h.lt).trans h
theorem zeroI (w : World) : (zeroValue 3).run Tryz.prog w = .ok (.int .i64 0) w := by kernel_rfl
theorem Pcs.miss (h : Pcs w b vs) {A : Nat → Int} (hn : ∀ B ∈ vs, eqV B A = false) : (Instr.lookup 157 (.map (some b)) (vecV A) true).run Tryz.prog w = .ok (.tuple #[.int .i64 0, .bool false]) w := by
  simp [Instr.lookup, run_underlying Tryz.underlying157, MapKept.run_getObj_map h, check7, find7 A vs 0 w (ask_miss A vs 0 0 w hn), zeroI, Result.andThen]
theorem Pcs.hit (h : Pcs w b vs) {A : Nat → Int} {a : Nat} (hn : ∀ k B, k < a → vs[k]? = some B → eqV B A = false) (hi : ∃ B, vs[a]? = some B ∧ eqV B A = true) : (Instr.lookup 157 (.map (some b)) (vecV A) true).run Tryz.prog w = .ok (.tuple #[.int .i64 a, .bool true]) w := by
  have e := ask_hit A vs 0 0 a w hn hi
  simp only [Nat.zero_add] at e
  simp [Instr.lookup, run_underlying Tryz.underlying157, MapKept.run_getObj_map h, check7, find7 A vs 0 w e, Result.andThen]
theorem Pcs.put (h : Pcs w b vs) {A : Nat → Int} (hn : ∀ B ∈ vs, eqV B A = false) : ∃ w', (Instr.mapUpdate 157 (.map (some b)) (vecV A) (.int .i64 (vs.length : Int))).run Tryz.prog w = .ok () w' ∧ Pcs w' b (vs ++ [A]) ∧ w.grownBy w' (some b) := by
  refine ⟨ChangeMaps.setBlock w b (.map ((pcEs 0 vs).toArray.push ⟨vecV A, .int .i64 (vs.length : Int), vs.length⟩) (vs.length + 1)), ?_, ?_, ⟨rfl, rfl, rfl, by simp [ChangeMaps.setBlock], fun i _ hi => ChangeMaps.heap_setBlock_other h _ (fun e => hi (by rw [e]))⟩⟩
  · simp [Instr.mapUpdate, run_underlying Tryz.underlying157, MapKept.run_getObj_map h, check7, find7 A vs 0 w (ask_miss A vs 0 0 w hn), MapKept.run_setObj_map _ h, Result.andThen, ChangeMaps.setBlock]
  · unfold Pcs
    rw [ChangeMaps.heap_setBlock_same h]
    rw [pcEs_app]
    simp [pcEs]
end
end Go.Proofs.YtjkcooakddlppaaGreat
/- The code's search for an Id: cmp.Compare of texts, span's closure, slices.BinarySearchFunc, span. Walked. -/
namespace Go.Proofs.YtjkcooakddlppaaGreat
set_option linter.unusedVariables false
set_option linter.unusedSimpArgs false
set_option maxRecDepth 100000
open Go.RowKit
def cmpS (a b : ByteArray) : Int := if lsB a b = true then -1 else if lsB b a = true then 1 else 0
theorem cmpS_neg (a b : ByteArray) : decide (cmpS a b < 0) = lsB a b := by
  unfold cmpS
  cases lsB a b <;> cases lsB b a <;> simp
theorem cmpS_zero (a b : ByteArray) : decide (cmpS a b = 0) = (a.toList == b.toList) := by
  unfold cmpS
  rcases ls_tri a b with h | h | h
  · rw [h, tl_ne.2 (ls_ne h)]; simp
  · rw [h, ls_irr, tl_eq.2 rfl]; simp
  · rw [ls_asym h, h, tl_ne.2 fun e => ls_ne h e.symm]; simp
set_option maxHeartbeats 400000 in
theorem isNaNS_calls (a : ByteArray) (w : World) :
    Calls Tryz.prog 136 #[.string a] w fun e w' => e = .returned (.bool false) ∧ w = w' := by
  go_enter Tryz.func136, Tryz.ntmps136
  go_wp2
  go_ret
  exact ⟨ret_bool (by simp), rfl⟩
set_option maxHeartbeats 400000 in
theorem cmpS_calls (a b : ByteArray) (w : World) :
    Calls Tryz.prog 88 #[.string a, .string b] w fun e w' => e = .returned (.int .i64 (cmpS a b)) ∧ w = w' := by
  have H := fun a w => Lib.hid (isNaNS_calls a w)
  cases h1 : Op.bytesLess a.toList b.toList
  · cases h2 : (a.toList == b.toList)
    · have e : cmpS a b = 1 := by
        unfold cmpS lsB
        have := ls_tri a b
        unfold lsB at this
        rcases this with h | h | h
        · rw [h1] at h; cases h
        · rw [tl_eq.2 h] at h2; cases h2
        · rw [h1, h]; rfl
      rw [e]
      go_enter Tryz.func88, Tryz.ntmps88
      go_wp2_with (go_at_call 136; refine ((H _ _).out).mono ?_; rintro e w' ⟨rfl, rfl⟩)
      all_goals
        go_ret
        first | exact ⟨ret_int (by simp_all), rfl⟩ | simp_all
    · have e : cmpS a b = 0 := by
        unfold cmpS
        rw [tl_eq.1 h2, ls_irr]; rfl
      rw [e]
      go_enter Tryz.func88, Tryz.ntmps88
      go_wp2_with (go_at_call 136; refine ((H _ _).out).mono ?_; rintro e w' ⟨rfl, rfl⟩)
      all_goals
        go_ret
        first | exact ⟨ret_int (by simp_all), rfl⟩ | simp_all
  · have e : cmpS a b = -1 := by
      unfold cmpS lsB
      rw [h1]; rfl
    rw [e]
    go_enter Tryz.func88, Tryz.ntmps88
    go_wp2_with (go_at_call 136; refine ((H _ _).out).mono ?_; rintro e w' ⟨rfl, rfl⟩)
    all_goals
      go_ret
      first | exact ⟨ret_int (by simp_all), rfl⟩ | simp_all
set_option maxHeartbeats 400000 in
theorem spanF_calls (x : Itm) (id : ByteArray) (w : World) :
    Calls Tryz.prog 138 #[iV x, .string id] w fun e w' => e = .returned (.int .i64 (cmpS x.id id)) ∧ Below w.heap.size w w' := by
  have H := fun a b w => Lib.hid (cmpS_calls a b w)
  have BEL := Lib.hid ((Below.refl w.heap.size w).alloc (Nat.le_refl _) (.cells (iA x) 49))
  go_enter Tryz.func138, Tryz.ntmps138
  go_wp2_with (go_at_call 88; refine ((H _ _ _).out).mono ?_; rintro e w' ⟨rfl, rfl⟩)
  go_ret
  exact ⟨rfl, BEL.out⟩
def BsRel (k len : Nat) (w : World) (iv jv : Value) (wr : World) : Prop :=
  ∃ i j : Nat, iv = .int .i64 i ∧ jv = .int .i64 j ∧ i ≤ k ∧ k ≤ j ∧ j ≤ len ∧ Hid (Below w.heap.size w wr)
set_option maxRecDepth 100000 in
set_option maxHeartbeats 4000000 in
theorem bsearch_calls (l : List Itm) (id : ByteArray) (v : Value) (w : World) (hR : Row 8 ic w l v) (hr : RiseI l) (hl : l.length ≤ 10000) :
    Calls Tryz.prog 137 #[v, .string id, .func (.func 138) #[] #[]] w fun e w' => e = .returned (.tuple #[.int .i64 (posI l id), .bool (hitI l id)]) ∧ Below w.heap.size w w' := by
  obtain ⟨oa, cap, b, o, rfl, hR⟩ := hR
  have HR := Lib.hid hR
  have HC := fun x w => Lib.hid (spanF_calls x id w)
  have hcap := hR.len
  have hmax := hR.max
  unfold maxLen at hmax
  have PI := fun (j : Nat) (i : Itm) (h : l[j]? = some i) => Lib.hid (pos_iff (id := id) hr h)
  have hk := pos_le l id
  have HH := Lib.hid (show ∀ i, l[posI l id]? = some i → hitI l id = (i.id.toList == id.toList) from fun i hi => by unfold hitI; rw [hi])
  have HN0 := Lib.hid (show l[posI l id]? = none → hitI l id = false from fun hi => by unfold hitI; rw [hi])
  clear hR hr
  generalize hn : l.length = len at *
  have HN := Lib.hid hn
  clear hn
  generalize posI l id = k at *
  generalize hitI l id = hit at *
  go_enter Tryz.func137, Tryz.ntmps137
  go_wp2_with fail
  go_loopw [9, 10] (fun iv jv wr => BsRel k len w iv jv wr) (fun iv jv _ => (intOf jv).toNat - (intOf iv).toNat)
  case atStart => exact ⟨0, len, rfl, rfl, Nat.zero_le _, hk, Nat.le_refl _, Below.refl _ _⟩
  case round =>
    obtain ⟨i, j, rfl, rfl, hi, hj, hjl, HB⟩ := hrel
    by_cases hlt : i < j
    · obtain ⟨x, hx⟩ : ∃ x, l[(i + j) / 2]? = some x := ⟨_, List.getElem?_eq_getElem (by rw [HN.out]; omega)⟩
      obtain ⟨rfl, hb0⟩ := HR.out.at0 (by rw [HN.out]; omega)
      obtain ⟨c0, c1, c2, c3, c4, c5, c6, c7⟩ := ic_cells (w := wr) (fun q u hu => (HB.out.cell (p := ⟨b, o + (i + j) / 2 * 8 + q, none⟩) hb0).trans (HR.out.cell _ x hx q u hu))
      have zb := Nat.lt_of_lt_of_le hb0 HB.out.size
      have P := PI _ _ hx
      have k1 : (i : Int) < (j : Int) := by omega
      have h1 : (i + j) / 2 < j := by omega
      have h2 : i ≤ (i + j) / 2 := by omega
      have e1 : ((i : Int) + (j : Int)) / 2 = (((i + j) / 2 : Nat) : Int) := by omega
      generalize (i + j) / 2 = h at *
      have q0 : (0 : Int) ≤ (h : Int) := by omega
      have q1 : (h : Int) < (len : Int) := by omega
      cases hs : lsB x.id id
      · have g : decide (cmpS x.id id < 0) = false := by rw [cmpS_neg]; exact hs
        have hle : k ≤ h := by have := P.out; rw [hs] at this; have := of_decide_eq_false this.symm; omega
        clear P PI HH HN0 hs
        go_wp2_with (go_at_call 138; refine (HC _ _).out.mono ?_; rintro e w' ⟨rfl, hb⟩)
        go_roundw
        case rel => exact ⟨i, h, rfl, rfl, hi, hle, by omega, Lib.hid (HB.out.trans (hb.mono HB.out.size))⟩
        case measure => simp [intOf]; omega
      · have g : decide (cmpS x.id id < 0) = true := by rw [cmpS_neg]; exact hs
        have hle : h < k := by have := P.out; rw [hs] at this; have := of_decide_eq_true this.symm; omega
        clear P PI HH HN0 hs
        go_wp2_with (go_at_call 138; refine (HC _ _).out.mono ?_; rintro e w' ⟨rfl, hb⟩)
        go_roundw
        case rel => exact ⟨h + 1, j, by go_num, rfl, hle, hj, hjl, Lib.hid (HB.out.trans (hb.mono HB.out.size))⟩
        case measure => simp [intOf]; omega
    · have e : i = k := by omega
      subst e
      have e : j = i := by omega
      subst e
      clear hi hj
      by_cases hlt2 : j < len
      · obtain ⟨x, hx⟩ : ∃ x, l[j]? = some x := ⟨_, List.getElem?_eq_getElem (by rw [HN.out]; omega)⟩
        obtain ⟨rfl, hb0⟩ := HR.out.at0 (by rw [HN.out]; omega)
        obtain ⟨c0, c1, c2, c3, c4, c5, c6, c7⟩ := ic_cells (w := wr) (fun q u hu => (HB.out.cell (p := ⟨b, o + j * 8 + q, none⟩) hb0).trans (HR.out.cell _ x hx q u hu))
        have zb := Nat.lt_of_lt_of_le hb0 HB.out.size
        have q0 : (0 : Int) ≤ (j : Int) := by omega
        have q1 : (j : Int) < (len : Int) := by omega
        have E := Lib.hid (HH.out x hx)
        clear PI HH HN0 hx
        cases hs : (x.id.toList == id.toList)
        · have g : (cmpS x.id id == 0) = false := by
            have := cmpS_zero x.id id; rw [hs] at this
            rw [beq_eq_false_iff_ne]; exact of_decide_eq_false this
          have E := Lib.hid (E.out.trans hs)
          go_wp2_with (go_at_call 138; refine (HC _ _).out.mono ?_; rintro e w' ⟨rfl, hb⟩)
          go_ret2
          exact ⟨by rw [E.out]; rfl, HB.out.trans (hb.mono HB.out.size)⟩
        · have g : (cmpS x.id id == 0) = true := by
            have := cmpS_zero x.id id; rw [hs] at this
            rw [beq_iff_eq]; exact of_decide_eq_true this
          have E := Lib.hid (E.out.trans hs)
          go_wp2_with (go_at_call 138; refine (HC _ _).out.mono ?_; rintro e w' ⟨rfl, hb⟩)
          go_ret2
          exact ⟨by rw [E.out]; rfl, HB.out.trans (hb.mono HB.out.size)⟩
      · have E := Lib.hid (HN0.out (List.getElem?_eq_none (by rw [HN.out]; omega)))
        go_wp2_with fail
        go_ret2
        exact ⟨by rw [E.out]; rfl, HB.out⟩
set_option maxHeartbeats 400000 in
theorem span_calls (l : List Itm) (id : ByteArray) (v : Value) (w : World) (hR : Row 8 ic w l v) (hr : RiseI l) (hl : l.length ≤ 10000) :
    Calls Tryz.prog 89 #[v, .string id] w fun e w' => e = .returned (.tuple #[.int .i64 (posI l id), .int .i64 (toI l id)]) ∧ Below w.heap.size w w' := by
  have H := Lib.hid (bsearch_calls l id v w hR hr hl)
  obtain ⟨oa, cap, rfl⟩ := hR.val
  have hk := pos_le l id
  unfold toI
  clear hR hr
  generalize hitI l id = hit at *
  generalize posI l id = k at *
  cases hit
  · go_enter Tryz.func89, Tryz.ntmps89
    go_wp2_with (go_at_call 137; refine H.out.mono ?_; rintro e w' ⟨rfl, hb⟩)
    go_ret2
    exact ⟨rfl, hb⟩
  · go_enter Tryz.func89, Tryz.ntmps89
    go_wp2_with (go_at_call 137; refine H.out.mono ?_; rintro e w' ⟨rfl, hb⟩)
    go_ret2
    exact ⟨rfl, hb⟩
end Go.Proofs.YtjkcooakddlppaaGreat
/- Counts of replicas: the code's own replica, walked. -/
namespace Go.Proofs.YtjkcooakddlppaaGreat
set_option linter.unusedVariables false
set_option linter.unusedSimpArgs false
set_option maxRecDepth 100000
open Go.RowKit
def repB (r : Int) : Bool := decide (1 ≤ r) && decide (r ≤ 8)
set_option maxHeartbeats 1000000 in
theorem replica_calls (r : Int) (w : World) :
    Calls Tryz.prog 123 #[.int .i64 r] w fun e w' => e = .returned (.bool (repB r)) ∧ w' = w := by
  unfold repB
  cases g1 : decide (1 ≤ r)
  all_goals
    cases g2 : decide (r ≤ 8)
    all_goals
      go_enter Tryz.func123, Tryz.ntmps123
      go_wp2_with fail
      go_ret
      simp
theorem replica_quiet (r : Int) (w : World) :
    Calls Tryz.prog 123 #[.int .i64 r] w fun e w' => e = .returned (.bool (repB r)) ∧ Below w.heap.size w w' :=
  (replica_calls r w).mono (by rintro e w' ⟨h, rfl⟩; exact ⟨h, Below.refl _ _⟩)
theorem rep_no {r : Int} (h : r < 1 ∨ 8 < r) : repB r = false := by
  unfold repB
  rcases h with h | h
  · rw [show decide (1 ≤ r) = false from decide_eq_false (by omega)]; rfl
  · rw [show decide (r ≤ 8) = false from decide_eq_false (by omega)]; simp
theorem rep_yes {k : Nat} (h : k < 8) : repB ((k : Int) + 1) = true := by
  unfold repB
  rw [show decide (1 ≤ (k : Int) + 1) = true from decide_eq_true (by omega), show decide ((k : Int) + 1 ≤ 8) = true from decide_eq_true (by omega)]
  rfl
theorem has_out {A : Nat → Int} {r c : Int} (h : r < 1 ∨ 8 < r) : hasV A r c = false := by
  unfold hasV
  rw [cnt_out h]
  by_cases h1 : 1 ≤ c
  · rw [show decide (c ≤ 0) = false from decide_eq_false (by omega)]; simp
  · rw [decide_eq_false h1]; rfl
end Go.Proofs.YtjkcooakddlppaaGreat
