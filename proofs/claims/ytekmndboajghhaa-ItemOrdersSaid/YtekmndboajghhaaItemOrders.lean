/- 'ItemOrders' returns true, whatever it is given: the walk. -/
import Derived.Test.YtekmndboajghhaaItemTells
import Derived.Deep.DeepCutAuto
namespace Go.Proofs.Ytekmndboajghhaa
open Go.RowKit

theorem cmpI_zero {a b : Int} : cmpI a b = 0 ↔ a = b := by
  unfold cmpI; split <;> (try split) <;> simp <;> omega
theorem cmpV_zero {a b c a' b' c' : Int} : cmpV a b c a' b' c' = 0 ↔ a = a' ∧ b = b' ∧ c = c' := by
  unfold cmpV orI
  rw [← cmpI_zero (a := a), ← cmpI_zero (a := b), ← cmpI_zero (a := c)]
  generalize cmpI a a' = x
  generalize cmpI b b' = y
  generalize cmpI c c' = z
  by_cases hx : x = 0 <;> by_cases hy : y = 0 <;> simp [hx, hy]
theorem cmpI_pos {a b : Int} : cmpI a b = 1 ↔ b < a := by
  unfold cmpI; split <;> (try split) <;> simp <;> omega
theorem cmpV_pos {a b c a' b' c' : Int} : cmpV a b c a' b' c' = 1 ↔ a' < a ∨ (a = a' ∧ (b' < b ∨ (b = b' ∧ c' < c))) := by
  unfold cmpV orI
  rw [← cmpI_pos (a := a), ← cmpI_zero (a := a), ← cmpI_zero (a := b), ← cmpI_pos (a := b), ← cmpI_pos (a := c)]
  generalize cmpI a a' = x
  generalize cmpI b b' = y
  generalize cmpI c c' = z
  by_cases hx : x = 0 <;> by_cases hy : y = 0 <;> simp [hx, hy]
theorem cmpV_nonneg {a b c a' b' c' : Int} : 0 ≤ cmpV a b c a' b' c' ↔ (cmpV a b c a' b' c' = 1 ∨ cmpV a b c a' b' c' = 0) := by
  have := cmpV_val a b c a' b' c'; omega
theorem cmpV_trans {a b c a' b' c' a'' b'' c'' : Int} (h1 : 0 ≤ cmpV a b c a' b' c') (h2 : 0 ≤ cmpV a' b' c' a'' b'' c'') :
    max (cmpV a b c a' b' c') (cmpV a' b' c' a'' b'' c'') ≤ cmpV a b c a'' b'' c'' := by
  rcases cmpV_nonneg.1 h1 with e1 | e1 <;> rcases cmpV_nonneg.1 h2 with e2 | e2 <;> rw [e1, e2]
  · have p1 := cmpV_pos.1 e1
    have p2 := cmpV_pos.1 e2
    have : cmpV a b c a'' b'' c'' = 1 := cmpV_pos.2 (by omega)
    omega
  · obtain ⟨rfl, rfl, rfl⟩ := cmpV_zero.1 e2
    omega
  · obtain ⟨rfl, rfl, rfl⟩ := cmpV_zero.1 e1
    omega
  · obtain ⟨rfl, rfl, rfl⟩ := cmpV_zero.1 e1
    omega

theorem cmpV_bd (a b c a' b' c' : Int) : -1 ≤ cmpV a b c a' b' c' ∧ cmpV a b c a' b' c' ≤ 1 := by
  have := cmpV_val a b c a' b' c'; omega

theorem feq_self {x : Nat} (h : Fl.wb x = true) : feq x x = true := by
  have h1 := (Fl.wb_int h).1
  have h2 := Fl.order_int h1 h1
  unfold feq
  have h3 : FloatKind.f64.format.order x x = some (compare (Fl.iv x) (Fl.iv x)) := h2
  rw [h3]
  simp

theorem same_self {id : ByteArray} {r c st : Int} {kd : ByteArray} {n : Int} {x y : Nat} (d : Bool) (h : mayI id r c st kd n x y = true) : sameB id r c st kd n x y d id r c st kd n x y d = true ∧ nameB id = true := by
  unfold mayI at h
  simp only [Bool.and_eq_true] at h
  obtain ⟨h1, _, _, _, _, h6⟩ := h
  unfold mayB at h6
  simp only [Bool.and_eq_true] at h6
  refine ⟨?_, h1⟩
  simp [sameB, feq_self h6.1, feq_self h6.2]

set_option maxRecDepth 100000 in
set_option maxHeartbeats 2000000 in
theorem itemOrders_calls (id : ByteArray) (r c st : Int) (kd : ByteArray) (n : Int) (x y : Nat) (d : Bool) (id' : ByteArray) (r' c' st' : Int) (kd' : ByteArray) (n' : Int) (x' y' : Nat) (d' : Bool)
    (id3 : ByteArray) (r3 c3 st3 : Int) (kd3 : ByteArray) (n3 : Int) (x3 y3 : Nat) (d3 : Bool) (w : World) :
    Calls Try.prog 4 #[rowV id r c st kd n x y d, rowV id' r' c' st' kd' n' x' y' d', rowV id3 r3 c3 st3 kd3 n3 x3 y3 d3] w fun e w' => e = .returned (.bool true) ∧ Below w.heap.size w w' := by
  have U := fun w => Lib.hid (up2_calls w)
  have I := fun id r c st kd n x y d w => Lib.hid (item_calls id r c st kd n x y d w)
  have C1 := fun w => Lib.hid (compare_calls id r c st kd n x y d id' r' c' st' kd' n' x' y' d' w)
  have C2 := fun w => Lib.hid (compare_calls id' r' c' st' kd' n' x' y' d' id r c st kd n x y d w)
  have C3 := fun w => Lib.hid (compare_calls id' r' c' st' kd' n' x' y' d' id3 r3 c3 st3 kd3 n3 x3 y3 d3 w)
  have C4 := fun w => Lib.hid (compare_calls id r c st kd n x y d id3 r3 c3 st3 kd3 n3 x3 y3 d3 w)
  have M := fun w => Lib.hid (itemMay_calls id r c st kd n x y d w)
  have N := fun w => Lib.hid (name_calls id w)
  have S := fun w => Lib.hid (same_calls id r c st kd n x y d id r c st kd n x y d w)
  have hms := same_self (id := id) (r := r) (c := c) (st := st) (kd := kd) (n := n) (x := x) (y := y) d
  go_enter Try.func4, Try.ntmps4
  go_wp2_with fail
  have R1 := Lib.hid (((Has.new w #[.string id, .int .i64 r, .int .i64 c, .int .i64 st, .string kd, .int .i64 n, .float .f64 x, .float .f64 y, .bool d] 24).alloc (.cells #[.string id', .int .i64 r', .int .i64 c', .int .i64 st', .string kd', .int .i64 n', .float .f64 x', .float .f64 y', .bool d'] 24)).alloc (.cells #[.string id3, .int .i64 r3, .int .i64 c3, .int .i64 st3, .string kd3, .int .i64 n3, .float .f64 x3, .float .f64 y3, .bool d3] 24))
  have R2 := Lib.hid ((Has.new (w.alloc (.cells #[.string id, .int .i64 r, .int .i64 c, .int .i64 st, .string kd, .int .i64 n, .float .f64 x, .float .f64 y, .bool d] 24)) #[.string id', .int .i64 r', .int .i64 c', .int .i64 st', .string kd', .int .i64 n', .float .f64 x', .float .f64 y', .bool d'] 24).alloc (.cells #[.string id3, .int .i64 r3, .int .i64 c3, .int .i64 st3, .string kd3, .int .i64 n3, .float .f64 x3, .float .f64 y3, .bool d3] 24))
  have R3 := Lib.hid (Has.new ((w.alloc (.cells #[.string id, .int .i64 r, .int .i64 c, .int .i64 st, .string kd, .int .i64 n, .float .f64 x, .float .f64 y, .bool d] 24)).alloc (.cells #[.string id', .int .i64 r', .int .i64 c', .int .i64 st', .string kd', .int .i64 n', .float .f64 x', .float .f64 y', .bool d'] 24)) #[.string id3, .int .i64 r3, .int .i64 c3, .int .i64 st3, .string kd3, .int .i64 n3, .float .f64 x3, .float .f64 y3, .bool d3] 24)
  have BEL := Lib.hid ((((Below.refl w.heap.size w).alloc (Nat.le_refl _) (.cells #[.string id, .int .i64 r, .int .i64 c, .int .i64 st, .string kd, .int .i64 n, .float .f64 x, .float .f64 y, .bool d] 24)).alloc (by simp) (.cells #[.string id', .int .i64 r', .int .i64 c', .int .i64 st', .string kd', .int .i64 n', .float .f64 x', .float .f64 y', .bool d'] 24)).alloc (by simp; omega) (.cells #[.string id3, .int .i64 r3, .int .i64 c3, .int .i64 st3, .string kd3, .int .i64 n3, .float .f64 x3, .float .f64 y3, .bool d3] 24))
  simp only [World.size_alloc] at R2 R3
  generalize ((w.alloc (.cells #[.string id, .int .i64 r, .int .i64 c, .int .i64 st, .string kd, .int .i64 n, .float .f64 x, .float .f64 y, .bool d] 24)).alloc (.cells #[.string id', .int .i64 r', .int .i64 c', .int .i64 st', .string kd', .int .i64 n', .float .f64 x', .float .f64 y', .bool d'] 24)).alloc (.cells #[.string id3, .int .i64 r3, .int .i64 c3, .int .i64 st3, .string kd3, .int .i64 n3, .float .f64 x3, .float .f64 y3, .bool d3] 24) = w0 at *
  have HZ := Lib.hid (cmpV_zero (a := st) (b := r) (c := c) (a' := st') (b' := r') (c' := c'))
  have HT := fun h1 h2 => Lib.hid (cmpV_trans (a := st) (b := r) (c := c) (a' := st') (b' := r') (c' := c') (a'' := st3) (b'' := r3) (c'' := c3) h1 h2)
  rw [cmpV_swap st r c st' r' c'] at C2
  obtain ⟨hD1, hD2⟩ := cmpV_bd st r c st' r' c'
  obtain ⟨hE1, hE2⟩ := cmpV_bd st' r' c' st3 r3 c3
  obtain ⟨hF1, hF2⟩ := cmpV_bd st r c st3 r3 c3
  have HM := Lib.hid hms
  clear hms
  generalize cmpV st r c st' r' c' = D at *
  generalize cmpV st' r' c' st3 r3 c3 = E at *
  generalize cmpV st r c st3 r3 c3 = F at *
  generalize sameB id r c st kd n x y d id r c st kd n x y d = sm at *
  generalize mayI id r c st kd n x y = ma at *
  generalize nameB id = na at *
  have hways : (D = 0 ∧ (st == st') = true ∧ (r == r') = true ∧ (c == c') = true) ∨ ((D = 1 ∨ D = -1) ∧ ((st == st') = false ∨ ((st == st') = true ∧ ((r == r') = false ∨ ((r == r') = true ∧ (c == c') = false))))) := by
    have hz := HZ.out
    simp only [beq_iff_eq, beq_eq_false_iff_ne]
    by_cases h0 : D = 0
    · have := hz.1 h0; exact .inl ⟨h0, this⟩
    · have : ¬ (st = st' ∧ r = r' ∧ c = c') := fun h => h0 (hz.2 h)
      refine .inr ⟨by omega, ?_⟩
      by_cases a : st = st' <;> by_cases b : r = r' <;> simp_all
  have HW := Lib.hid hways
  clear HZ hways
  refine ((U _).out).mono ?_; rintro e w1 ⟨rfl, hb⟩
  have BEL := Lib.hid (BEL.out.trans (hb.mono BEL.out.size))
  have R1 := Lib.hid (R1.out.below hb R1.out.lt)
  have R2 := Lib.hid (R2.out.below hb R2.out.lt)
  have R3 := Lib.hid (R3.out.below hb R3.out.lt)
  clear hb
  have lR1 := R1.out.cell
  have zR1 := R1.out.lt
  go_wp2_with fail
  refine ((I _ _ _ _ _ _ _ _ _ _).out).mono ?_; rintro e w2 ⟨rfl, hb⟩
  clear lR1 zR1
  have BEL := Lib.hid (BEL.out.trans (hb.mono BEL.out.size))
  have R2 := Lib.hid (R2.out.below hb R2.out.lt)
  have R3 := Lib.hid (R3.out.below hb R3.out.lt)
  clear hb
  have lR2 := R2.out.cell
  have zR2 := R2.out.lt
  go_wp2_with fail
  clear lR2 zR2
  have R2 := Lib.hid (R2.out.alloc (.cells #[.string id, .int .i64 r, .int .i64 c, .int .i64 st, .string kd, .int .i64 n, .complex .f64 x y, .bool d] 30))
  have R3 := Lib.hid (R3.out.alloc (.cells #[.string id, .int .i64 r, .int .i64 c, .int .i64 st, .string kd, .int .i64 n, .complex .f64 x y, .bool d] 30))
  have S1 := Lib.hid (Has.new w2 #[.string id, .int .i64 r, .int .i64 c, .int .i64 st, .string kd, .int .i64 n, .complex .f64 x y, .bool d] 30)
  have BEL := Lib.hid (BEL.out.alloc BEL.out.size (.cells #[.string id, .int .i64 r, .int .i64 c, .int .i64 st, .string kd, .int .i64 n, .complex .f64 x y, .bool d] 30))
  generalize w2.heap.size = p1 at *
  generalize w2.alloc (.cells #[.string id, .int .i64 r, .int .i64 c, .int .i64 st, .string kd, .int .i64 n, .complex .f64 x y, .bool d] 30) = w2' at *
  refine ((I _ _ _ _ _ _ _ _ _ _).out).mono ?_; rintro e w3 ⟨rfl, hb⟩
  have BEL := Lib.hid (BEL.out.trans (hb.mono BEL.out.size))
  have R3 := Lib.hid (R3.out.below hb R3.out.lt)
  have S1 := Lib.hid (S1.out.below hb S1.out.lt)
  clear hb
  have lR3 := R3.out.cell
  have zR3 := R3.out.lt
  go_wp2_with fail
  clear lR3 zR3
  have R3 := Lib.hid (R3.out.alloc (.cells #[.string id', .int .i64 r', .int .i64 c', .int .i64 st', .string kd', .int .i64 n', .complex .f64 x' y', .bool d'] 30))
  have S1 := Lib.hid (S1.out.alloc (.cells #[.string id', .int .i64 r', .int .i64 c', .int .i64 st', .string kd', .int .i64 n', .complex .f64 x' y', .bool d'] 30))
  have S2 := Lib.hid (Has.new w3 #[.string id', .int .i64 r', .int .i64 c', .int .i64 st', .string kd', .int .i64 n', .complex .f64 x' y', .bool d'] 30)
  have BEL := Lib.hid (BEL.out.alloc BEL.out.size (.cells #[.string id', .int .i64 r', .int .i64 c', .int .i64 st', .string kd', .int .i64 n', .complex .f64 x' y', .bool d'] 30))
  generalize w3.heap.size = p2 at *
  generalize w3.alloc (.cells #[.string id', .int .i64 r', .int .i64 c', .int .i64 st', .string kd', .int .i64 n', .complex .f64 x' y', .bool d'] 30) = w3' at *
  refine ((I _ _ _ _ _ _ _ _ _ _).out).mono ?_; rintro e w4 ⟨rfl, hb⟩
  have BEL := Lib.hid (BEL.out.trans (hb.mono BEL.out.size))
  have S1 := Lib.hid (S1.out.below hb S1.out.lt)
  have S2 := Lib.hid (S2.out.below hb S2.out.lt)
  clear hb
  have lS1 := S1.out.cell
  have zS1 := S1.out.lt
  have lS2 := S2.out.cell
  have zS2 := S2.out.lt
  go_wp2_with fail
  clear lS1 zS1 lS2 zS2
  have S1 := Lib.hid (S1.out.alloc (.cells #[.string id3, .int .i64 r3, .int .i64 c3, .int .i64 st3, .string kd3, .int .i64 n3, .complex .f64 x3 y3, .bool d3] 30))
  have S2 := Lib.hid (S2.out.alloc (.cells #[.string id3, .int .i64 r3, .int .i64 c3, .int .i64 st3, .string kd3, .int .i64 n3, .complex .f64 x3 y3, .bool d3] 30))
  have S3 := Lib.hid (Has.new w4 #[.string id3, .int .i64 r3, .int .i64 c3, .int .i64 st3, .string kd3, .int .i64 n3, .complex .f64 x3 y3, .bool d3] 30)
  have BEL := Lib.hid (BEL.out.alloc BEL.out.size (.cells #[.string id3, .int .i64 r3, .int .i64 c3, .int .i64 st3, .string kd3, .int .i64 n3, .complex .f64 x3 y3, .bool d3] 30))
  generalize w4.heap.size = p3 at *
  generalize w4.alloc (.cells #[.string id3, .int .i64 r3, .int .i64 c3, .int .i64 st3, .string kd3, .int .i64 n3, .complex .f64 x3 y3, .bool d3] 30) = w4' at *
  refine ((C1 _).out).mono ?_; rintro e w5 ⟨rfl, hb⟩
  have BEL := Lib.hid (BEL.out.trans (hb.mono BEL.out.size))
  have S1 := Lib.hid (S1.out.below hb S1.out.lt)
  have S2 := Lib.hid (S2.out.below hb S2.out.lt)
  have S3 := Lib.hid (S3.out.below hb S3.out.lt)
  clear hb
  have lS1 := S1.out.cell
  have zS1 := S1.out.lt
  have lS2 := S2.out.cell
  have zS2 := S2.out.lt
  clear U I C1
  go_upto_region 6 with fail
  go_cut [44] (fun s44 wx => s44 = .bool false ∧ Hid (Below w.heap.size w wx ∧ Has wx p1 #[.string id, .int .i64 r, .int .i64 c, .int .i64 st, .string kd, .int .i64 n, .complex .f64 x y, .bool d] ∧ Has wx p2 #[.string id', .int .i64 r', .int .i64 c', .int .i64 st', .string kd', .int .i64 n', .complex .f64 x' y', .bool d'] ∧ Has wx p3 #[.string id3, .int .i64 r3, .int .i64 c3, .int .i64 st3, .string kd3, .int .i64 n3, .complex .f64 x3 y3, .bool d3]))
  case first =>
    go_wp2_with fail
    clear lS1 zS1 lS2 zS2
    refine ((C2 _).out).mono ?_; rintro e w6 ⟨rfl, hb⟩
    have BEL := Lib.hid (BEL.out.trans (hb.mono BEL.out.size))
    have S1 := Lib.hid (S1.out.below hb S1.out.lt)
    have S2 := Lib.hid (S2.out.below hb S2.out.lt)
    have S3 := Lib.hid (S3.out.below hb S3.out.lt)
    clear hb
    have lS1 := S1.out.cell
    have zS1 := S1.out.lt
    have lS2 := S2.out.cell
    have zS2 := S2.out.lt
    have hways := HW.out
    clear HW
    rcases hways with ⟨rfl, e1, e2, e3⟩ | ⟨rfl | rfl, e1 | ⟨e1, e2 | ⟨e2, e3⟩⟩⟩
    all_goals
      go_wp2_with fail
      go_meet
      exact ⟨rfl, BEL.out, S1.out, S2.out, S3.out⟩
  case rest =>
    clear HW C2
    obtain ⟨rfl, hh⟩ := hcut
    clear lS1 zS1 lS2 zS2
    clear BEL S1 S2 S3
    generalize w5 = w50 at *
    obtain ⟨hB, h1, h2, h3⟩ := Hid.out hh
    have BEL := Lib.hid hB
    have S1 := Lib.hid h1
    have S2 := Lib.hid h2
    have S3 := Lib.hid h3
    clear hB h1 h2 h3 hh
    go_upto_region 8 with fail
    go_cut [63] (fun s63 wx => s63 = .bool false ∧ Hid (Below w.heap.size w wx ∧ Has wx p1 #[.string id, .int .i64 r, .int .i64 c, .int .i64 st, .string kd, .int .i64 n, .complex .f64 x y, .bool d] ∧ Has wx p2 #[.string id', .int .i64 r', .int .i64 c', .int .i64 st', .string kd', .int .i64 n', .complex .f64 x' y', .bool d'] ∧ Has wx p3 #[.string id3, .int .i64 r3, .int .i64 c3, .int .i64 st3, .string kd3, .int .i64 n3, .complex .f64 x3 y3, .bool d3]))
    case first =>
      have LS1 := fun dd os o => S1.out.regrown dd os o
      have LS2 := fun dd os o => S2.out.regrown dd os o
      have LS3 := fun dd os o => S3.out.regrown dd os o

      have m3 := fun dd os => Lib.hid (Calls.regrown_of (C3 (Sort.grow (redrawn wc dd) os)).out)
      have m4 := fun dd os => Lib.hid (Calls.regrown_of (C4 (Sort.grow (redrawn wc dd) os)).out)
      have hways : D = -1 ∨ (E = -1 ∧ (D = 0 ∨ D = 1)) ∨ (D = 0 ∧ E = 0 ∧ 0 ≤ F) ∨ (F = 1 ∧ (D = 0 ∨ D = 1) ∧ (E = 0 ∨ E = 1)) := by
        by_cases a : 0 ≤ D
        · by_cases b : 0 ≤ E
          · have := (HT a b).out; omega
          · omega
        · omega
      clear HT
      rcases hways with rfl | ⟨rfl, rfl | rfl⟩ | ⟨rfl, rfl, hF⟩ | ⟨rfl, rfl | rfl, rfl | rfl⟩
      all_goals
        refine wp_region_quiet_below (by kernel_rfl) (by kernel_rfl) ?_
        repeat (first | go_big_quiet_step ((first | (with_reducible exact (m3 _ _).out) | (with_reducible exact (m4 _ _).out))) | quiet_step (first | (with_reducible exact (m3 _ _).out) | (with_reducible exact (m4 _ _).out)))
        refine wpQuiet_nil ?_
        intro w7 hw'
        have hb := regrown_below hw'
        clear hw' m3 m4
        clear LS1 LS2 LS3
        have BEL := Lib.hid (BEL.out.trans (hb.mono BEL.out.size))
        have S1 := Lib.hid (S1.out.below hb S1.out.lt)
        have S2 := Lib.hid (S2.out.below hb S2.out.lt)
        have S3 := Lib.hid (S3.out.below hb S3.out.lt)
        clear hb

        go_wp2_with fail
        go_meet
        exact ⟨by first | rfl | (rw [decide_eq_false (by omega)]), BEL.out, S1.out, S2.out, S3.out⟩
    case rest =>
      clear C3 C4 HT
      obtain ⟨rfl, hh⟩ := hcut
      clear BEL S1 S2 S3
      obtain ⟨hB, h1, _, _⟩ := Hid.out hh
      have BEL := Lib.hid hB
      have S1 := Lib.hid h1
      clear hB h1 hh
      have lS1 := S1.out.cell
      have zS1 := S1.out.lt

      cases ma
      · go_wp2_with fail
        refine ((M _).out).mono ?_; rintro e w8 ⟨rfl, hb⟩
        have BEL := Lib.hid (BEL.out.trans (hb.mono BEL.out.size))
        clear hb
        go_wp2
        go_ret
        exact ⟨rfl, BEL.out⟩
      · obtain ⟨rfl, rfl⟩ := HM.out rfl
        go_wp2_with fail
        refine ((M _).out).mono ?_; rintro e w8 ⟨rfl, hb⟩
        clear lS1 zS1
        have BEL := Lib.hid (BEL.out.trans (hb.mono BEL.out.size))
        have S1 := Lib.hid (S1.out.below hb S1.out.lt)
        clear hb
        have lS1 := S1.out.cell
        have zS1 := S1.out.lt

        go_wp2_with fail
        refine ((N _).out).mono ?_; rintro e w8 ⟨rfl, rfl⟩
        go_wp2_with fail
        refine ((S _).out).mono ?_; rintro e w9 ⟨rfl, hb⟩
        have BEL := Lib.hid (BEL.out.trans (hb.mono BEL.out.size))
        clear hb
        go_wp2
        go_ret
        exact ⟨rfl, BEL.out⟩

end Go.Proofs.Ytekmndboajghhaa
