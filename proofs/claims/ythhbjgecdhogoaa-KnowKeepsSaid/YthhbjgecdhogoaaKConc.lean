/- Pieces of two lists, one behind the other: slices.Concat, walked over the library's contract of slices.Grow, laid at this program. -/
import Derived.Test.YthhbjgecdhogoaaRefPlainK
import Derived.Shelf.Spec.SlicesGrow
import Derived.Lib.AppendZeros
namespace Go.Proofs.Ythhbjgecdhogoaa
set_option linter.unusedVariables false
set_option linter.unusedSimpArgs false
open Go.RowKit

def growA_ren : Go.Shelf.Ren := ⟨fun | 4 => 50 | n => n,
  fun | 22 => 24 | 25 => 40 | 3 => 3 | 4 => 4 | 9 => 9 | 20 => 20 | 0 => 0 | n => n,
  fun | n => n⟩
theorem growA : Go.Proofs.Lays8.n4 Try.prog growA_ren := {
  mixed := by kernel_rfl,
  f4 := ⟨Try.f50.name, by decide, Try.func50.trans (congrArg some (by kernel_rfl))⟩,
  t0 := Try.underlying0,
  a0 := Try.isAgg0,
  z0 := Try.sizeOf0,
  v0 := Try.zeroValue0,
  t3 := Try.underlying3,
  a3 := Try.isAgg3,
  z3 := Try.sizeOf3,
  v3 := Try.zeroValue3,
  t4 := Try.underlying4,
  a4 := Try.isAgg4,
  z4 := Try.sizeOf4,
  v4 := Try.zeroValue4,
  t9 := Try.underlying9,
  a9 := Try.isAgg9,
  z9 := Try.sizeOf9,
  v9 := Try.zeroValue9,
  t20 := Try.underlying20,
  a20 := Try.isAgg20,
  z20 := Try.sizeOf20,
  v20 := Try.zeroValue20,
  t22 := Try.underlying24,
  a22 := Try.isAgg24,
  z22 := Try.sizeOf24,
  v22 := Try.zeroValue24 }

theorem grow_calls (n : Nat) (hn : n ≤ 20000) (w : World) :
    Calls Try.prog 50 #[.slice none 0 0, .int .i64 n] w fun e w' => ∃ v, e = .returned v ∧ w'.ownsRow w.heap.size 40 9 v 0 [] ∧ Below w.heap.size w w' := by
  obtain ⟨j0, hj, hy0, hy1, hy2⟩ := info_parts info_frag
  by_cases h0 : n = 0
  · subst h0
    refine (Any8.slices_Grow_room growA none 0 0 0 w (by omega) (by omega) (by omega) (by omega)).mono ?_
    rintro e w' ⟨rfl, rfl⟩
    exact ⟨_, rfl, World.ownsRow_nil _ _ _ _, Below.refl _ _⟩
  · refine (Any8.slices_Grow_grow growA j0 _ hj hy0 (by rw [hy1]; omega) none 0 0 n [] w (by omega) (by omega) (by rw [hy2]; omega) (by omega) (by simp) (fun _ => rfl) (fun a h => by cases h)).mono ?_
    rintro e w' ⟨rfl, rfl⟩
    have hge := grownCap_ge w (0 + n) 0 (growA_ren.t 25)
    have hle := grownCap_le_maxLen w (0 + n) 0 (growA_ren.t 25) (by unfold maxLen; omega)
    refine ⟨_, rfl, ⟨by simp, .inr ⟨w.heap.size, _, _, rfl, Nat.le_refl _, heap_alloc_new w.drew _, by omega, hle, ?_, by simp⟩⟩, (Below.refl _ _).drew.alloc (Nat.le_refl _) _⟩
    simp only [Array.size_append, List.size_toArray, size_zeroCells, List.length_nil, Nat.zero_add, Nat.sub_zero]
    rw [← Nat.add_mul]
    rw [show (Value.cells (.agg #[.slice none 0 0, .int .i64 0, .int .i64 0, .int .i64 0, .int .i64 0, .int .i64 0, .int .i64 0, .int .i64 0, .int .i64 0])).size = 9 from rfl]
    congr 1
    simp only [Nat.zero_add] at hge
    omega

theorem storeNone (a : Addr) (w : World) : (storeCells a []).run Try.prog w = .ok () w := by simp [storeCells]
/-- Nothing is appended. -/
theorem run_append_zero (ty : TypeId) (base oa : Option Addr) (n cap c : Nat) (hn : n ≤ cap) (w : World) :
    (Builtin.append_ #[24, 24] ty #[.slice base n cap, .slice oa 0 c]).run Try.prog w = .ok (.slice base n cap) w := by
  obtain ⟨j0, hj, hy0, hy1, hy2⟩ := info_parts info_frag
  have hf : (Builtin.firstCells j0.size 0 (.slice oa 0 c)).run Try.prog w = .ok #[] w := by
    cases oa with
    | none => exact run_firstCells_none w _ _ _ _
    | some a => exact run_firstCells_some w j0.size 0 a 0 c [] (by simp) (fun j v h => by simp at h)
  cases base with
  | none => simp [Builtin.append_, run_underlying Try.underlying24, sizeOf, typeInfo, hj, Builtin.lenOf, hn, hf, Result.andThen]
  | some a => simp [Builtin.append_, run_underlying Try.underlying24, sizeOf, typeInfo, hj, Builtin.lenOf, hn, hf, storeNone, Result.andThen]
theorem frCs_news {w : World} {l : List Fr} {U : Nat → Value} {oa : Option Addr} {cap b o : Nat} (h : FrAt w l U oa cap b o) : ∀ j u, (frCs U 0 l)[j]? = some u → w.cell? ((⟨b, o, none⟩ : Addr).add j) = some u := by
  intro j u hu
  have hj : j < (frCs U 0 l).length := (List.getElem?_eq_some_iff.1 hu).1
  rw [frCs_len] at hj
  obtain ⟨i, r, hr, rfl⟩ : ∃ i r, r < 9 ∧ j = i * 9 + r := ⟨j / 9, j % 9, Nat.mod_lt _ (by omega), by omega⟩
  obtain ⟨f, hf⟩ : ∃ f, l[i]? = some f := ⟨_, List.getElem?_eq_getElem (by omega)⟩
  rw [frCs_get U 0 l i f hf r hr, Nat.zero_add] at hu
  have := h.cell i f hf r u hu
  rw [← this]
  by_cases e : i * 9 + r = 0
  · obtain ⟨rfl, rfl⟩ : i = 0 ∧ r = 0 := by omega
    simp [Addr.add]
  · simp only [Addr.add]
    first | rw [if_neg e, Nat.add_assoc] | (rw [Nat.add_assoc]; split <;> first | rfl | omega) | (simp [Nat.add_assoc]; intro h1 h2; omega)
theorem kfrCs_one {w : World} {l : List Fr} {U : Nat → Value} {oa : Option Addr} {cap b o : Nat} (h : FrAt w l U oa cap b o) : ∀ u ∈ frCs U 0 l, u.oneCell' = true := by
  intro u hu
  obtain ⟨j, hj⟩ := List.getElem?_of_mem hu
  have hlt : j < (frCs U 0 l).length := (List.getElem?_eq_some_iff.1 hj).1
  rw [frCs_len] at hlt
  obtain ⟨i, r, hr, rfl⟩ : ∃ i r, r < 9 ∧ j = i * 9 + r := ⟨j / 9, j % 9, Nat.mod_lt _ (by omega), by omega⟩
  obtain ⟨f, hf⟩ : ∃ f, l[i]? = some f := ⟨_, List.getElem?_eq_getElem (by omega)⟩
  rw [frCs_get U 0 l i f hf r hr, Nat.zero_add] at hj
  obtain ⟨oq, cq, e⟩ := (h.ids i f hf).val
  exact oneF f (by rw [e]; rfl) u (List.mem_of_getElem? hj)
/-- Pieces that lie there are appended. -/
theorem run_append_frags (ty : TypeId) {w : World} {base n : Nat} {v sv : Value} {xs : List Value} {l : List Fr} (hown : w.ownsRow base 40 9 v n xs) {U : Nat → Value} {oa : Option Addr} {cap b o : Nat} (hsv : sv = .slice oa l.length cap) (h : FrAt w l U oa cap b o)
    (hn : n + l.length ≤ 30000) (hbase : base ≤ w.heap.size) :
    ∃ v' w', (Builtin.append_ #[24, 24] ty #[v, sv]).run Try.prog w = .ok v' w' ∧ w'.ownsRow base 40 9 v' (n + l.length) (xs ++ frCs U 0 l) ∧ w.grownBy w' v.ownBlock := by
  subst hsv
  obtain ⟨j0, hj, hy0, hy1, hy2⟩ := info_parts info_frag
  by_cases h0 : l.length = 0
  · have e : l = [] := List.length_eq_zero_iff.1 h0
    subst e
    obtain ⟨ov, cv, gv, e, h1, _⟩ := row_slice hown
    subst e
    refine ⟨_, w, run_append_zero ty ov oa n cv cap h1 w, ?_, ⟨rfl, rfl, rfl, Nat.le_refl _, fun _ _ _ => rfl⟩⟩
    simpa [frCs] using hown
  · obtain ⟨rfl, hb⟩ := h.at0 (by omega)
    obtain ⟨v', w', r1, r2, r3, _⟩ := run_append_own w base 24 ty 40 j0 _ 9 88 Try.underlying24 hj hy0 hy1 hy2 rfl (by omega) v n xs hown ⟨b, o, none⟩ l.length cap (frCs U 0 l) (frCs_len U 0 l) (frCs_news h) (kfrCs_one h) (by unfold maxLen; omega) (by omega) hbase
    exact ⟨v', w', r1, r2, r3⟩
theorem rowFr {w : World} {base : Nat} {l : List Fr} {U : Nat → Value} {v : Value} (h : w.ownsRow base 40 9 v l.length (frCs U 0 l)) (hi : ∀ k f, l[k]? = some f → TxW w f.ids (U k)) : FrW w l v := by
  obtain ⟨oa, cap, g, e, h1, h2, hg⟩ := row_slice h
  subst e
  refine ⟨U, oa, cap, g, 0, rfl, h1, h2, fun h0 => ⟨(hg h0).1, (hg h0).2.2⟩, fun k f hf j u hu => ?_, hi⟩
  obtain ⟨rfl, _⟩ := hg (by have := posA hf; omega)
  have hj : j < 9 := (List.getElem?_eq_some_iff.1 hu).1
  have hk := posA hf
  rw [Nat.zero_add, h.cellAt (k * 9 + j) (by omega), frCs_get _ _ _ _ _ hf _ hj, Nat.zero_add]
  exact hu
def bothU (U V : Nat → Value) (n : Nat) : Nat → Value := fun i => if i < n then U i else V (i - n)
theorem bothU_cells (U V : Nat → Value) (l m : List Fr) : frCs U 0 l ++ frCs V 0 m = frCs (bothU U V l.length) 0 (l ++ m) := by
  rw [frCs_app, Nat.zero_add]
  congr 1
  · exact frCs_congr fun i hi => by simp [bothU, hi]
  · have : ∀ (s t : Nat) (q : List Fr), (∀ i, i < q.length → V (t + i) = bothU U V l.length (s + i)) → frCs V t q = frCs (bothU U V l.length) s q := by
      intro s t q
      induction q generalizing s t with
      | nil => intro _; rfl
      | cons p q ih =>
        intro h
        rw [frCs, frCs, show V t = bothU U V l.length s from h 0 (by simp), ih (s + 1) (t + 1) fun i hi => by have := h (i + 1) (by simp; omega); rwa [show t + (i + 1) = t + 1 + i by omega, show s + (i + 1) = s + 1 + i by omega] at this]
    exact this l.length 0 m fun i hi => by
      unfold bothU; rw [if_neg (by omega), Nat.zero_add, Nat.add_sub_cancel_left]

/-- Two lists of pieces that lie there. -/
structure Srcs (w : World) (L : Nat → List Fr) (V : Nat → Value) (U : Nat → Nat → Value) (bs : Nat) : Prop where
  lt : bs < w.heap.size
  cell : ∀ k, k < 2 → w.cell? ⟨bs, k, none⟩ = some (V k)
  lies : ∀ k, k < 2 → ∃ oa cap b o, V k = .slice oa (L k).length cap ∧ FrAt w (L k) (U k) oa cap b o
  len : (L 0).length + (L 1).length ≤ 20000
def totL (L : Nat → List Fr) : Nat → Nat
  | 0 => 0
  | k + 1 => totL L k + (L k).length
def totC (L : Nat → List Fr) (U : Nat → Nat → Value) : Nat → List Value
  | 0 => []
  | k + 1 => totC L U k ++ frCs (U k) 0 (L k)
theorem Srcs.tot {w : World} {L : Nat → List Fr} {V : Nat → Value} {U : Nat → Nat → Value} {bs : Nat} (h : Srcs w L V U bs) : ∀ k, k ≤ 2 → totL L k ≤ 20000 := by
  intro k hk
  have := h.len
  obtain rfl | rfl | rfl : k = 0 ∨ k = 1 ∨ k = 2 := by omega
  · simp [totL]
  · simp only [totL]; omega
  · simp only [totL]; omega
def KSumRel (L : Nat → List Fr) (w0 : World) (s i : Value) (wr : World) : Prop := ∃ k : Nat, k ≤ 2 ∧ i = .int .i64 k ∧ s = .int .i64 (totL L k) ∧ Hid (w0 = wr)
def CatRel (L : Nat → List Fr) (U : Nat → Nat → Value) (w0 : World) (v i : Value) (wr : World) : Prop :=
  ∃ k : Nat, k ≤ 2 ∧ i = .int .i64 k ∧ Hid (wr.ownsRow w0.heap.size 40 9 v (totL L k) (totC L U k)) ∧ Hid (Below w0.heap.size w0 wr)

set_option maxRecDepth 100000 in
set_option maxHeartbeats 4000000 in
theorem concat_walk (L : Nat → List Fr) (V : Nat → Value) (U : Nat → Nat → Value) (bs : Nat) (w : World) (hS : Srcs w L V U bs) :
    Calls Try.prog 30 #[.slice (some ⟨bs, 0, none⟩) 2 2] w fun e w' => ∃ v, e = .returned v ∧ w'.ownsRow w.heap.size 40 9 v (totL L 2) (totC L U 2) ∧ Below w.heap.size w w' := by
  have HS := Lib.hid hS
  have G := fun w' => Lib.hid (grow_calls (totL L 2) (HS.out.tot 2 (by omega)) w')
  clear hS
  go_enter Try.func30, Try.ntmps30
  go_wp2_with fail
  go_loopw [3, 11] (fun s i wr => KSumRel L w s i wr) (fun _ i _ => 2 - (intOf i).toNat)
  case atStart => exact ⟨0, by omega, rfl, rfl, rfl⟩
  case round =>
    obtain ⟨k, hk, rfl, rfl, hw⟩ := hrel
    have ew := hw.out
    subst ew
    clear hw
    by_cases hlt : k < 2
    · obtain ⟨oa, cap, b, o, hV, hF⟩ := HS.out.lies k hlt
      have cv := HS.out.cell k hlt
      rw [hV] at cv
      have zb := HS.out.lt
      have t1 := HS.out.tot k hk
      have t2 := HS.out.tot (k + 1) (by omega)
      have t3 : totL L (k + 1) = totL L k + (L k).length := rfl
      have k0 : (0 : Int) ≤ (k : Int) := by omega
      have k1 : (k : Int) < 2 := by omega
      have hq : ((L k).length : Int) ≤ 20000 := by omega
      have hq0 : (0 : Int) ≤ ((L k).length : Int) := by omega
      have HT := Lib.hid t3
      clear t2 t3 hV hF
      generalize (L k).length = m at *
      generalize ht : totL L k = t at *
      have hneg : decide (((t : Int) + (m : Int)) < 0) = false := decide_eq_false (by omega)
      go_wp2_with fail
      go_roundw
      case rel => exact ⟨k + 1, by omega, by go_num, by rw [HT.out]; go_num, rfl⟩
      case measure => simp [intOf]; omega
    · have e : k = 2 := by omega
      subst e
      go_wp2_with (go_at_call 50; refine (G _).out.mono ?_; rintro e w1 ⟨v0, rfl, hr0, hb0⟩)
      have C0 : CatRel L U w v0 (.int .i64 0) w1 := ⟨0, by omega, rfl, hr0, hb0⟩
      clear hr0 hb0
      go_loopw [6, 27] (fun v i wr => CatRel L U w v i wr) (fun _ i _ => 2 - (intOf i).toNat)
      case atStart => exact C0
      case round =>
        clear C0
        obtain ⟨k, hk, rfl, HR, HB⟩ := hrel
        by_cases hlt : k < 2
        · obtain ⟨oa, cap, b, o, hV, hF⟩ := HS.out.lies k hlt
          have cv := (HB.out.cell (p := ⟨bs, k, none⟩) HS.out.lt).trans (HS.out.cell k hlt)
          rw [hV] at cv
          have zb : bs < wr.heap.size := Nat.lt_of_lt_of_le HS.out.lt HB.out.size
          have t1 := HS.out.tot (k + 1) (by omega)
          simp only [totL] at t1
          have k0 : (0 : Int) ≤ (k : Int) := by omega
          have k1 : (k : Int) < 2 := by omega
          have hF' := hF.later HB.out (Nat.le_refl _)
          have AP := fun ty => run_append_frags ty HR.out rfl hF' (by omega) HB.out.size
          have HA := Lib.hid AP
          obtain ⟨ov, cvv, gv, rfl, _, _, _⟩ := row_slice HR.out
          clear hF hF' AP hV
          go_wp2_with (at_builtin; obtain ⟨v', w', hrun, hown, hgr⟩ := HA.out _; refine Lib.wpList_append_run _ rfl _ _ _ _ rfl _ _ rfl rfl _ _ hrun ?_)
          have HB2 := Lib.hid (HB.out.grown hgr HB.out.size fun q hq => (World.ownsRow.lt HR.out q hq).1)
          go_roundw
          case rel => exact ⟨k + 1, by omega, by go_num, hown, HB2⟩
          case measure => simp [intOf]; omega
        · have e : k = 2 := by omega
          subst e
          go_wp2_with fail
          go_ret
          exact ⟨_, rfl, HR.out, HB.out⟩

/-- Both lists, one behind the other. -/
theorem concat_row (l m : List Fr) (U0 U1 : Nat → Value) (oa oa' : Option Addr) (cap cap' b b' o o' : Nat) (bs : Nat) (w : World) (hlt : bs < w.heap.size) (c0 : w.cell? ⟨bs, 0, none⟩ = some (.slice oa l.length cap)) (c1 : w.cell? ⟨bs, 1, none⟩ = some (.slice oa' m.length cap')) (h0 : FrAt w l U0 oa cap b o) (h1 : FrAt w m U1 oa' cap' b' o') (hlen : l.length + m.length ≤ 20000) :
    Calls Try.prog 30 #[.slice (some ⟨bs, 0, none⟩) 2 2] w fun e w' => ∃ u, e = .returned u ∧ w'.ownsRow w.heap.size 40 9 u (l ++ m).length (frCs (bothU U0 U1 l.length) 0 (l ++ m)) ∧ Below w.heap.size w w' := by
  refine (concat_walk (fun k => if k = 0 then l else m) (fun k => if k = 0 then .slice oa l.length cap else .slice oa' m.length cap') (fun k => if k = 0 then U0 else U1) bs w ⟨hlt, fun k hk => ?_, fun k hk => ?_, by simpa using hlen⟩).mono ?_
  · obtain rfl | rfl : k = 0 ∨ k = 1 := by omega
    · simpa using c0
    · simpa using c1
  · obtain rfl | rfl : k = 0 ∨ k = 1 := by omega
    · exact ⟨_, _, _, _, rfl, h0⟩
    · exact ⟨_, _, _, _, rfl, h1⟩
  · rintro e w' ⟨u, rfl, hr, hb⟩
    refine ⟨u, rfl, ?_, hb⟩
    simp only [totL, totC] at hr
    simp only [if_pos, List.nil_append, Nat.zero_add, show ((1 : Nat) = 0) = False by simp, if_false, if_true] at hr
    rw [bothU_cells, ← List.length_append] at hr
    exact hr
/-- .. that lie there. -/
theorem bothFr {w : World} {base : Nat} {l m : List Fr} {U0 U1 : Nat → Value} {u : Value} (h : w.ownsRow base 40 9 u (l ++ m).length (frCs (bothU U0 U1 l.length) 0 (l ++ m))) (h0 : ∀ k f, l[k]? = some f → TxW w f.ids (U0 k)) (h1 : ∀ k f, m[k]? = some f → TxW w f.ids (U1 k)) : FrW w (l ++ m) u := by
  refine rowFr h fun k f hf => ?_
  by_cases hk : k < l.length
  · rw [List.getElem?_append_left hk] at hf
    simp only [bothU, hk, if_true]
    exact h0 k f hf
  · rw [List.getElem?_append_right (by omega)] at hf
    simp only [bothU, hk, if_false]
    exact h1 _ f hf

end Go.Proofs.Ythhbjgecdhogoaa
