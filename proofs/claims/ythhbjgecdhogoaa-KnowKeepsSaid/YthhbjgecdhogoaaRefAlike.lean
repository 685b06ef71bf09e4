/- What is known: the document's Alike, walked. -/
import Derived.Test.YthhbjgecdhogoaaPlSt
import Derived.Test.YthhbjgecdhogoaaVecL
import Derived.Deep.CutBlock
import Derived.Deep.DeepCutAuto
namespace Go.Proofs.Ythhbjgecdhogoaa
set_option linter.unusedVariables false
set_option linter.unusedSimpArgs false
open Go.RowKit

theorem eqIds_len : ∀ {l m : List ByteArray}, l.length ≠ m.length → eqIds l m = false
  | [], [], h => absurd rfl h
  | [], _ :: _, _ => rfl
  | _ :: _, [], _ => rfl
  | a :: l, b :: m, h => by
    simp only [eqIds, Bool.and_eq_false_iff]
    exact .inr (eqIds_len fun e => h (by simp [e]))
theorem eqIds_iff : ∀ {l m : List ByteArray}, l.length = m.length → (eqIds l m = true ↔ ∀ (j : Nat) (a b : ByteArray), l[j]? = some a → m[j]? = some b → (a.toList == b.toList) = true)
  | [], [], _ => by simp [eqIds]
  | [], _ :: _, h => by simp at h
  | _ :: _, [], h => by simp at h
  | a :: l, b :: m, h => by
    simp only [eqIds, Bool.and_eq_true]
    rw [eqIds_iff (by simpa using h)]
    constructor
    · rintro ⟨h1, h2⟩ j x y hx hy
      cases j with
      | zero => simp at hx hy; subst hx hy; exact h1
      | succ j => exact h2 j x y (by simpa using hx) (by simpa using hy)
    · intro h
      exact ⟨h 0 a b rfl rfl, fun j x y hx hy => h (j + 1) x y (by simpa using hx) (by simpa using hy)⟩
theorem eqIds_at {l m : List ByteArray} (hl : l.length = m.length) {j : Nat} {a b : ByteArray} (ha : l[j]? = some a) (hb : m[j]? = some b) (h : (a.toList == b.toList) = false) : eqIds l m = false := by
  cases e : eqIds l m with
  | false => rfl
  | true => rw [(eqIds_iff hl).1 e j a b ha hb] at h; cases h
theorem eqFrs_len : ∀ {l m : List Fr}, l.length ≠ m.length → eqFrs l m = false
  | [], [], h => absurd rfl h
  | [], _ :: _, _ => rfl
  | _ :: _, [], _ => rfl
  | a :: l, b :: m, h => by
    simp only [eqFrs, Bool.and_eq_false_iff]
    exact .inr (eqFrs_len fun e => h (by simp [e]))
theorem eqFrs_iff : ∀ {l m : List Fr}, l.length = m.length → (eqFrs l m = true ↔ ∀ (j : Nat) (a b : Fr), l[j]? = some a → m[j]? = some b → eqFr a b = true)
  | [], [], _ => by simp [eqFrs]
  | [], _ :: _, h => by simp at h
  | _ :: _, [], h => by simp at h
  | a :: l, b :: m, h => by
    simp only [eqFrs, Bool.and_eq_true]
    rw [eqFrs_iff (by simpa using h)]
    constructor
    · rintro ⟨h1, h2⟩ j x y hx hy
      cases j with
      | zero => simp at hx hy; subst hx hy; exact h1
      | succ j => exact h2 j x y (by simpa using hx) (by simpa using hy)
    · intro h
      exact ⟨h 0 a b rfl rfl, fun j x y hx hy => h (j + 1) x y (by simpa using hx) (by simpa using hy)⟩
theorem eqFrs_at {l m : List Fr} (hl : l.length = m.length) {j : Nat} {a b : Fr} (ha : l[j]? = some a) (hb : m[j]? = some b) (h : eqFr a b = false) : eqFrs l m = false := by
  cases e : eqFrs l m with
  | false => rfl
  | true => rw [(eqFrs_iff hl).1 e j a b ha hb] at h; cases h

structure AlS (w : World) (X Y : Array Value) (wr : World) : Prop where
  o1 : Has wr w.heap.size X
  o2 : Has wr (w.heap.size + 1) Y
  bel : Below w.heap.size w wr
theorem AlS.later {w wr w' : World} {X Y : Array Value} (h : AlS w X Y wr) (hb : Below wr.heap.size wr w') : AlS w X Y w' :=
  ⟨h.o1.below hb h.o1.lt, h.o2.below hb h.o2.lt, h.bel.trans (hb.mono h.bel.size)⟩
def AlRel (l m : List Fr) (len : Nat) (X Y : Array Value) (w : World) (iv : Value) (wr : World) : Prop :=
  ∃ k : Nat, k ≤ len ∧ iv = .int .i64 k ∧ Hid (∀ j a b, j < k → l[j]? = some a → m[j]? = some b → eqFr a b = true) ∧ Hid (AlS w X Y wr)
def AlRel2 (l m : List ByteArray) (len : Nat) (X Y : Array Value) (w : World) (iv : Value) (wr : World) : Prop :=
  ∃ k : Nat, k ≤ len ∧ iv = .int .i64 k ∧ Hid (∀ j a b, j < k → l[j]? = some a → m[j]? = some b → (a.toList == b.toList) = true) ∧ Hid (AlS w X Y wr)

set_option maxRecDepth 100000 in
set_option maxHeartbeats 8000000 in
theorem alike_calls (a b : Kn) (v v' : Value) (w : World) (hR : FrW w a.l v) (hM : FrW w b.l v') :
    Calls Try.prog 8 #[knV a.star v, knV b.star v'] w fun e w' => e = .returned (.bool (alikeK a b)) ∧ Below w.heap.size w w' := by
  obtain ⟨A, l⟩ := a
  obtain ⟨B, m⟩ := b
  simp only at hR hM ⊢
  obtain ⟨U, oa, cap, b0, o, rfl, hr⟩ := hR
  obtain ⟨U', oa', cap', b0', o', rfl, hr'⟩ := hM
  have HR := Lib.hid hr
  have HR' := Lib.hid hr'
  have hcap := hr.len
  have hmax := hr.max
  have hcap' := hr'.len
  have hmax' := hr'.max
  unfold maxLen at hmax hmax'
  clear hr hr'
  have HE := Lib.hid (show alikeK ⟨A, l⟩ ⟨B, m⟩ = (eqV A B && eqFrs l m) from rfl)
  generalize alikeK ⟨A, l⟩ ⟨B, m⟩ = res at *
  generalize hn : l.length = len at *
  have HN := Lib.hid hn
  generalize hn' : m.length = len' at *
  have HN' := Lib.hid hn'
  clear hn hn'
  have I0 : AlS w (knA A (.slice oa len cap)) (knA B (.slice oa' len' cap')) ((w.alloc (.cells (knA A (.slice oa len cap)) 26)).alloc (.cells (knA B (.slice oa' len' cap')) 26)) :=
    ⟨(Has.new w _ _).alloc _, (Own.newAt _ _ _ (by simp)).has, ((Below.refl _ _).alloc (Nat.le_refl _) _).alloc (by simp) _⟩
  have HI0 := Lib.hid I0
  clear I0
  have hq := fun w' => show (Op.equalIn 10000 23 (.agg #[.int .i64 (A 0), .int .i64 (A 1), .int .i64 (A 2), .int .i64 (A 3), .int .i64 (A 4), .int .i64 (A 5), .int .i64 (A 6), .int .i64 (A 7)]) (.agg #[.int .i64 (B 0), .int .i64 (B 1), .int .i64 (B 2), .int .i64 (B 3), .int .i64 (B 4), .int .i64 (B 5), .int .i64 (B 6), .int .i64 (B 7)])).run Try.prog w' = .ok (eqV A B) w' from eqVec7 A B w'
  cases hqq : eqV A B
  · rw [hqq] at hq
    have E := Lib.hid (show res = false by rw [HE.out, hqq]; rfl)
    clear hqq
    go_enter Try.func8, Try.ntmps8
    go_wp2_with fail
    go_ret
    exact ⟨ret_bool E.out.symm, HI0.out.bel⟩
  rw [hqq] at hq
  have HE2 := Lib.hid (show res = eqFrs l m by rw [HE.out, hqq]; rfl)
  clear hqq HE
  by_cases hne : len = len'
  case neg =>
    have E := Lib.hid (show res = false by rw [HE2.out]; exact eqFrs_len (by rw [HN.out, HN'.out]; exact hne))
    have hne1 : ((len : Int) == (len' : Int)) = false := by simp; omega
    have hne2 : ((len : Int) != (len' : Int)) = true := by simp; omega
    go_enter Try.func8, Try.ntmps8
    go_wp2_with fail
    go_ret
    exact ⟨ret_bool E.out.symm, HI0.out.bel⟩
  subst hne
  go_enter Try.func8, Try.ntmps8
  go_wp2_with fail
  clear hq
  go_loopw [5] (fun iv wr => AlRel l m len (knA A (.slice oa len cap)) (knA B (.slice oa' len cap')) w iv wr) (fun iv _ => len - (intOf iv).toNat)
  case atStart => exact ⟨0, Nat.zero_le _, rfl, fun j a b hj => absurd hj (by omega), HI0⟩
  case round =>
    clear HI0
    obtain ⟨k, hk, rfl, HA, HS⟩ := hrel
    by_cases hlt : k < len
    · obtain ⟨f, hf⟩ : ∃ f, l[k]? = some f := ⟨_, List.getElem?_eq_getElem (by rw [HN.out]; exact hlt)⟩
      obtain ⟨g, hg⟩ : ∃ g, m[k]? = some g := ⟨_, List.getElem?_eq_getElem (by rw [HN'.out]; exact hlt)⟩
      obtain ⟨rfl, hb0⟩ := HR.out.at0 (by rw [HN.out]; omega)
      obtain ⟨rfl, hb0'⟩ := HR'.out.at0 (by rw [HN'.out]; omega)
      obtain ⟨ou, cu, bu, qu, hu, ht⟩ := HR.out.ids k f hf
      obtain ⟨ou', cu', bu', qu', hu', ht'⟩ := HR'.out.ids k g hg
      obtain ⟨c0, c1, c2, c3, c4, c5, c6, c7, c8⟩ := fc_cells (w := wr) (fun j z hz => (HS.out.bel.cell (p := ⟨b0, o + k * 9 + j, none⟩) hb0).trans (HR.out.cell k f hf j z hz))
      obtain ⟨d0, d1, d2, d3, d4, d5, d6, d7, d8⟩ := fc_cells (w := wr) (fun j z hz => (HS.out.bel.cell (p := ⟨b0', o' + k * 9 + j, none⟩) hb0').trans (HR'.out.cell k g hg j z hz))
      rw [hu] at c0
      rw [hu'] at d0
      have HF := Lib.hid hf
      have HG := Lib.hid hg
      have HU := Lib.hid hu
      have HU' := Lib.hid hu'
      have HT := Lib.hid ht
      have HT' := Lib.hid ht'
      have hcu := ht.len
      have hmu := ht.max
      have hcu' := ht'.len
      have hmu' := ht'.max
      unfold maxLen at hmu hmu'
      clear hf hg hu hu' ht ht'
      generalize hnf : f.ids.length = nf at *
      have HNF := Lib.hid hnf
      generalize hng : g.ids.length = ng at *
      have HNG := Lib.hid hng
      clear hnf hng
      have LA := fun dd os q => HS.out.o1.regrown dd os q
      have LB := fun dd os q => HS.out.o2.regrown dd os q
      have r0 := fun dd os => cell_regrown c0 dd os
      have s0 := fun dd os => cell_regrown d0 dd os
      have r1 := fun dd os => cell_regrown c1 dd os
      have s1 := fun dd os => cell_regrown d1 dd os
      have r2 := fun dd os => cell_regrown c2 dd os
      have s2 := fun dd os => cell_regrown d2 dd os
      have r3 := fun dd os => cell_regrown c3 dd os
      have s3 := fun dd os => cell_regrown d3 dd os
      have r4 := fun dd os => cell_regrown c4 dd os
      have s4 := fun dd os => cell_regrown d4 dd os
      have r5 := fun dd os => cell_regrown c5 dd os
      have s5 := fun dd os => cell_regrown d5 dd os
      have r6 := fun dd os => cell_regrown c6 dd os
      have s6 := fun dd os => cell_regrown d6 dd os
      have r7 := fun dd os => cell_regrown c7 dd os
      have s7 := fun dd os => cell_regrown d7 dd os
      have r8 := fun dd os => cell_regrown c8 dd os
      have s8 := fun dd os => cell_regrown d8 dd os
      clear c0 c1 c2 c3 c4 c5 c6 c7 c8 d0 d1 d2 d3 d4 d5 d6 d7 d8
      have l1 := HS.out.o1.cell
      have l2 := HS.out.o2.cell
      have z1 := HS.out.o1.lt
      have z2 := HS.out.o2.lt
      have k0 : (0 : Int) ≤ (k : Int) := by omega
      have k1 : (k : Int) < (len : Int) := by omega
      have hq := fun w' => show (Op.equalIn 10000 23 (.agg #[.int .i64 (f.v 0), .int .i64 (f.v 1), .int .i64 (f.v 2), .int .i64 (f.v 3), .int .i64 (f.v 4), .int .i64 (f.v 5), .int .i64 (f.v 6), .int .i64 (f.v 7)]) (.agg #[.int .i64 (g.v 0), .int .i64 (g.v 1), .int .i64 (g.v 2), .int .i64 (g.v 3), .int .i64 (g.v 4), .int .i64 (g.v 5), .int .i64 (g.v 6), .int .i64 (g.v 7)])).run Try.prog w' = .ok (eqV f.v g.v) w' from eqVec7 f.v g.v w'
      cases hqq : eqV f.v g.v
      · rw [hqq] at hq
        have E := Lib.hid (show res = false by rw [HE2.out]; exact eqFrs_at (by rw [HN.out, HN'.out]) HF.out HG.out (by unfold eqFr; rw [hqq]; rfl))
        clear hqq
        go_wp2_with fail
        refine wp_region_quiet_below (by kernel_rfl) (by kernel_rfl) ?_
        repeat (first | go_big_quiet_step (fail) | quiet_step (fail))
        refine wpQuiet_nil ?_
        intro w7 hw'
        have hb' := Lib.hid (regrown_below hw')
        clear hw'
        clear r0 s0 r1 s1 r2 s2 r3 s3 r4 s4 r5 s5 r6 s6 r7 s7 r8 s8 LA LB hq l1 l2
        go_wp2_with fail
        go_ret
        exact ⟨ret_bool E.out.symm, HS.out.bel.trans (hb'.out.mono HS.out.bel.size)⟩
      rw [hqq] at hq
      by_cases hne : nf = ng
      case neg =>
        have E := Lib.hid (show res = false by rw [HE2.out]; exact eqFrs_at (by rw [HN.out, HN'.out]) HF.out HG.out (by unfold eqFr; rw [eqIds_len (by rw [HNF.out, HNG.out]; exact hne)]; simp))
        have hne1 : ((nf : Int) == (ng : Int)) = false := by simp; omega
        have hne2 : ((nf : Int) != (ng : Int)) = true := by simp; omega
        clear hqq
        go_wp2_with fail
        refine wp_region_quiet_below (by kernel_rfl) (by kernel_rfl) ?_
        repeat (first | go_big_quiet_step (fail) | quiet_step (fail))
        refine wpQuiet_nil ?_
        intro w7 hw'
        have hb' := Lib.hid (regrown_below hw')
        clear hw'
        clear r0 s0 r1 s1 r2 s2 r3 s3 r4 s4 r5 s5 r6 s6 r7 s7 r8 s8 LA LB hq l1 l2
        go_wp2_with fail
        go_ret
        exact ⟨ret_bool E.out.symm, HS.out.bel.trans (hb'.out.mono HS.out.bel.size)⟩
      subst hne
      have HQ := Lib.hid hqq
      clear hqq
      go_wp2_with fail
      refine wp_region_quiet_below (by kernel_rfl) (by kernel_rfl) ?_
      repeat (first | go_big_quiet_step (fail) | quiet_step (fail))
      refine wpQuiet_nil ?_
      intro w7 hw'
      have hb' := Lib.hid (regrown_below hw')
      clear hw'
      clear r0 s0 r1 s1 r2 s2 r3 s3 r4 s4 r5 s5 r6 s6 r7 s7 r8 s8 LA LB hq l1 l2 z1 z2
      have HS7 := Lib.hid (HS.out.later hb'.out)
      clear hb' HS
      go_wp2_with fail
      go_loopw [6] (fun iv wr => AlRel2 f.ids g.ids nf (knA A (.slice (some ⟨b0, o, none⟩) len cap)) (knA B (.slice (some ⟨b0', o', none⟩) len cap')) w iv wr) (fun iv _ => nf - (intOf iv).toNat)
      case atStart => exact ⟨0, Nat.zero_le _, rfl, fun j a b hj => absurd hj (by omega), HS7⟩
      case round =>
        clear HS7
        obtain ⟨j, hj, rfl, HB, HS⟩ := hrel
        have l1 := HS.out.o1.cell
        have l2 := HS.out.o2.cell
        have z1 := HS.out.o1.lt
        have z2 := HS.out.o2.lt
        obtain ⟨c0, _⟩ := fc_cells (w := wr) (fun j z hz => (HS.out.bel.cell (p := ⟨b0, o + k * 9 + j, none⟩) hb0).trans (HR.out.cell k f HF.out j z hz))
        obtain ⟨d0, _⟩ := fc_cells (w := wr) (fun j z hz => (HS.out.bel.cell (p := ⟨b0', o' + k * 9 + j, none⟩) hb0').trans (HR'.out.cell k g HG.out j z hz))
        rw [HU.out] at c0
        rw [HU'.out] at d0
        by_cases hjt : j < nf
        · obtain ⟨x, hx⟩ : ∃ x, f.ids[j]? = some x := ⟨_, List.getElem?_eq_getElem (by rw [HNF.out]; exact hjt)⟩
          obtain ⟨y, hy⟩ : ∃ y, g.ids[j]? = some y := ⟨_, List.getElem?_eq_getElem (by rw [HNG.out]; exact hjt)⟩
          obtain ⟨rfl, hb1⟩ := HT.out.at0 (by rw [HNF.out]; omega)
          obtain ⟨rfl, hb1'⟩ := HT'.out.at0 (by rw [HNG.out]; omega)
          have x0 := (HS.out.bel.cell (p := ⟨bu, qu + j, none⟩) hb1).trans (HT.out.cell j x hx)
          have y0 := (HS.out.bel.cell (p := ⟨bu', qu' + j, none⟩) hb1').trans (HT'.out.cell j y hy)
          have r0 := fun dd os => cell_regrown c0 dd os
          have s0 := fun dd os => cell_regrown d0 dd os
          have rx := fun dd os => cell_regrown x0 dd os
          have ry := fun dd os => cell_regrown y0 dd os
          have LA := fun dd os q => HS.out.o1.regrown dd os q
          have LB := fun dd os q => HS.out.o2.regrown dd os q
          have j0 : (0 : Int) ≤ (j : Int) := by omega
          have j1 : (j : Int) < (nf : Int) := by omega
          have HX := Lib.hid hx
          have HY := Lib.hid hy
          clear hx hy x0 y0
          cases ht : (x.toList == y.toList)
          · have E := Lib.hid (show res = false by rw [HE2.out]; exact eqFrs_at (by rw [HN.out, HN'.out]) HF.out HG.out (by unfold eqFr; rw [eqIds_at (by rw [HNF.out, HNG.out]) HX.out HY.out ht]; simp))
            go_wp2_with fail
            refine wp_region_quiet_below (by kernel_rfl) (by kernel_rfl) ?_
            repeat (first | go_big_quiet_step (fail) | quiet_step (fail))
            refine wpQuiet_nil ?_
            intro w7 hw'
            have hb' := Lib.hid (regrown_below hw')
            clear hw'
            clear r0 s0 rx ry LA LB l1 l2
            go_wp2_with fail
            go_ret
            exact ⟨ret_bool E.out.symm, HS.out.bel.trans (hb'.out.mono HS.out.bel.size)⟩
          · have HB2 := Lib.hid (show ∀ q a b, q < j + 1 → f.ids[q]? = some a → g.ids[q]? = some b → (a.toList == b.toList) = true from fun q a b hq ha hb => by
              by_cases e : q = j
              · subst e; rw [HX.out] at ha; rw [HY.out] at hb; cases ha; cases hb; exact ht
              · exact HB.out q a b (by omega) ha hb)
            go_wp2_with fail
            refine wp_region_quiet_below (by kernel_rfl) (by kernel_rfl) ?_
            repeat (first | go_big_quiet_step (fail) | quiet_step (fail))
            refine wpQuiet_nil ?_
            intro w7 hw'
            have hb' := Lib.hid (regrown_below hw')
            clear hw'
            clear r0 s0 rx ry LA LB l1 l2
            have HS7 := Lib.hid (HS.out.later hb'.out)
            go_wp2_with fail
            go_roundw
            case rel => exact ⟨j + 1, by omega, by go_num, HB2, HS7⟩
            case measure => simp [intOf]; omega
        · have e : nf = j := by omega
          subst e
          have HA2 := Lib.hid (show ∀ q a b, q < k + 1 → l[q]? = some a → m[q]? = some b → eqFr a b = true from fun q a b hq ha hb => by
            by_cases e : q = k
            · subst e
              rw [HF.out] at ha; rw [HG.out] at hb; cases ha; cases hb
              unfold eqFr
              rw [HQ.out, (eqIds_iff (by rw [HNF.out, HNG.out])).2 fun j x y hx hy => HB.out j x y (by have := posA hx; rw [HNF.out] at this; exact this) hx hy]; rfl
            · exact HA.out q a b (by omega) ha hb)
          go_wp2_with fail
          go_roundw
          case rel => exact ⟨k + 1, by omega, by go_num, HA2, HS⟩
          case measure => simp [intOf]; omega
    · have e : len = k := by omega
      subst e
      have E := Lib.hid (show res = true by
        rw [HE2.out]
        exact (eqFrs_iff (by rw [HN.out, HN'.out])).2 fun j x y hx hy => HA.out j x y (by have := posA hx; rw [HN.out] at this; exact this) hx hy)
      have l1 := HS.out.o1.cell
      have l2 := HS.out.o2.cell
      have z1 := HS.out.o1.lt
      have z2 := HS.out.o2.lt
      go_wp2_with fail
      go_ret
      exact ⟨ret_bool E.out.symm, HS.out.bel⟩

end Go.Proofs.Ythhbjgecdhogoaa
