/- Joined: RefMayS. -/
import Derived.Test.YthbjgfennclidaaGreatJ24
import Derived.Test.YthbjgfennclidaaGreatJ05
import Derived.Test.YthbjgfennclidaaGreatJ14
import Derived.Deep.RegionHeld3
import Derived.Deep.MidRow
/- States: the document's May, walked. -/
namespace Go.Proofs.YthbjgfennclidaaGreat
set_option linter.unusedVariables false
set_option linter.unusedSimpArgs false
set_option maxRecDepth 100000
open Go.RowKit
theorem Row.since {sz : Nat} {f : Itm → List Value} {w w' : World} {l : List Itm} {v : Value} (h : Row sz f w l v) (hb : Below w.heap.size w w') : Row sz f w' l v := h.later hb
theorem StW.since {w w' : World} {s : St} {fv sv ov kv : Value} (h : StW w s fv sv ov kv) (hb : Below w.heap.size w w') : StW w' s fv sv ov kv := h.later hb
theorem has_range {w : World} {b : Nat} {l : List Value} (h : Has w b l.toArray) : w.rangeAt b 0 l := fun j v hv => by
  rw [Nat.zero_add, h.cell j]; simpa using hv
theorem MkS.alloc {w wr : World} {X : Array Value} (h : MkS w X wr) (o : Obj) : MkS w X (wr.alloc o) := h.later ((Below.refl _ _).alloc (Nat.le_refl _) _)
theorem MkS.set8 {w wr : World} {X : Array Value} {b : Nat} (h : MkS w X wr) (hb : w.heap.size < b) (c0 c1 c2 c3 c4 c5 c6 c7 : Value) : MkS w X ((((((((wr.setCell ⟨b, 0, none⟩ c0).setCell ⟨b, 1, none⟩ c1).setCell ⟨b, 2, none⟩ c2).setCell ⟨b, 3, none⟩ c3).setCell ⟨b, 4, none⟩ c4).setCell ⟨b, 5, none⟩ c5).setCell ⟨b, 6, none⟩ c6).setCell ⟨b, 7, none⟩ c7) :=
  have h8 : Below b wr (st8 wr b c0 c1 c2 c3 c4 c5 c6 c7) := st8_below (Below.refl b wr) (Nat.le_refl _) c0 c1 c2 c3 c4 c5 c6 c7
  ⟨h.o1.below h8 hb, h.bel.trans (h8.mono (Nat.le_of_lt hb))⟩
set_option maxRecDepth 100000 in
set_option maxHeartbeats 16000000 in
theorem refMayS_calls (s : St) (fv sv ov kv : Value) (w : World) (hS : StW w s fv sv ov kv) (hB : StB s) :
    Calls Tryz.prog 15 #[stV s fv sv ov kv] w fun e w' => e = .returned (.bool (mayS s)) ∧ Below w.heap.size w w' := by
  obtain ⟨r, f, store, out, k, count, clock, epoch⟩ := s
  obtain ⟨b1, b2, b3, b4, b5⟩ := hB
  have OS := Lib.hid (Has.new w (stA ⟨r, f, store, out, k, count, clock, epoch⟩ fv sv ov kv) 52)
  have BEL := Lib.hid ((Below.refl w.heap.size w).alloc (Nat.le_refl _) (.cells (stA ⟨r, f, store, out, k, count, clock, epoch⟩ fv sv ov kv) 52))
  have LS := Lib.hid (hS.alloc (.cells (stA ⟨r, f, store, out, k, count, clock, epoch⟩ fv sv ov kv) 52))
  have hvs := hS.ls.val
  have hvo := hS.lo
  have HS0 := hS
  clear hS
  simp only at b1 b2 b3 b4 b5 hvs
  obtain ⟨os, cs, rfl⟩ := hvs
  have HW := Lib.hid HS0
  clear HS0
  have C1 := fun w' h => Lib.hid (refMay3_calls f fv w' h (by omega))
  have C2 := fun w' h => Lib.hid (show Calls Tryz.prog 52 #[.slice os store.length cs] w' (fun e w'' => e = .returned (.bool (mayLB store)) ∧ Below w'.heap.size w' w'') from mayList_calls mayT refMayT_calls store (.slice os store.length cs) w' h)
  have C3 := fun w' h => Lib.hid (show Calls Tryz.prog 52 #[ov] w' (fun e w'' => e = .returned (.bool (mayLB out)) ∧ Below w'.heap.size w' w'') from mayList_calls mayT refMayT_calls out ov w' h)
  have C4 := fun w' h => Lib.hid (refMayK_calls nameB refName_calls k kv w' h (by omega))
  have C5 := fun w' h h' => Lib.hid (refStood_calls ⟨r, f, store, out, k, count, clock, epoch⟩ fv (.slice os store.length cs) ov kv store (.slice os store.length cs) true w' h h' (by show f.size ≤ 1000; omega))
  have C6 := fun w' h h' => Lib.hid (refStood_calls ⟨r, f, store, out, k, count, clock, epoch⟩ fv (.slice os store.length cs) ov kv out ov false w' h h' (by show f.size ≤ 1000; omega))
  have C7 := fun w' h => Lib.hid (refBeyond_calls k r count kv w' h)
  have GT := fun id w' h => Lib.hid (refGet_calls store id (.slice os store.length cs) w' h)
  have HE := Lib.hid (show mayS ⟨r, f, store, out, k, count, clock, epoch⟩ = ((Pr.mayB f && (mayLB store && (mayLB out && (mayK nameB k && (inB r 1 8 && decide (store.length + out.length ≤ 40)))))) && ((inB count 0 1000 && (inB clock 0 1000000 && inB epoch 0 1000000)) && (twiceB ⟨r, f, store, out, k, count, clock, epoch⟩ && (stoodB ⟨r, f, store, out, k, count, clock, epoch⟩ store true && (stoodB ⟨r, f, store, out, k, count, clock, epoch⟩ out false && !beyS k r count))))) from rfl)
  have HT := Lib.hid (show twiceB ⟨r, f, store, out, k, count, clock, epoch⟩ = out.all (fun i => !(getI store i.id).2) from rfl)
  generalize mayS ⟨r, f, store, out, k, count, clock, epoch⟩ = res at *
  generalize twiceB ⟨r, f, store, out, k, count, clock, epoch⟩ = tw at *
  generalize stoodB ⟨r, f, store, out, k, count, clock, epoch⟩ store true = sa at *
  generalize stoodB ⟨r, f, store, out, k, count, clock, epoch⟩ out false = sb at *
  generalize beyS k r count = bb at *
  generalize Pr.mayB f = x1 at *
  generalize mayLB store = x2 at *
  generalize mayLB out = x3 at *
  generalize mayK nameB k = x4 at *
  obtain ⟨oo, co, b, o, rfl, hro⟩ := hvo
  have HR := Lib.hid hro
  have hmo := hro.max
  have hlo := hro.len
  have hms := LS.out.ls.cap
  simp only at hmo hlo hms
  clear hro
  unfold maxLen at hmo hms
  generalize hns : store.length = n at *
  generalize hno : out.length = m at *
  have HNO := Lib.hid hno
  clear hns hno
  have lOS := OS.out.cell
  have zOS := OS.out.lt
  have kw : IntKind.i64.wrap ((n : Int) + (m : Int)) = (n : Int) + (m : Int) := by rw [IntKind.wrap_i64]; omega
  have kw2 : wrap64 ((n : Int) + (m : Int)) = (n : Int) + (m : Int) := by unfold wrap64; omega
  go_enter Tryz.func15, Tryz.ntmps15
  go_upto_region 2 with (first | (go_at_call 47; with_reducible refine (C1 _ LS.out.lf).out.mono ?_; rintro e w1 ⟨rfl, hb⟩; replace OS := Lib.hid (OS.out.below hb OS.out.lt); replace LS := Lib.hid (LS.out.later hb); replace BEL := Lib.hid (BEL.out.trans (hb.mono BEL.out.size)); clear hb; replace lOS := OS.out.cell; replace zOS := OS.out.lt) | fail)
  clear C1
  go_upto_region 3 with (first | (go_at_call 52; with_reducible refine (C2 _ LS.out.ls).out.mono ?_; rintro e w2 ⟨rfl, hb⟩; replace OS := Lib.hid (OS.out.below hb OS.out.lt); replace LS := Lib.hid (LS.out.later hb); replace BEL := Lib.hid (BEL.out.trans (hb.mono BEL.out.size)); clear hb; replace lOS := OS.out.cell; replace zOS := OS.out.lt) | fail)
  clear C2
  go_upto_region 4 with (first | (go_at_call 52; with_reducible refine (C3 _ LS.out.lo).out.mono ?_; rintro e w3 ⟨rfl, hb⟩; replace OS := Lib.hid (OS.out.below hb OS.out.lt); replace LS := Lib.hid (LS.out.later hb); replace BEL := Lib.hid (BEL.out.trans (hb.mono BEL.out.size)); clear hb; replace lOS := OS.out.cell; replace zOS := OS.out.lt) | fail)
  clear C3
  go_upto_region 5 with (first | (go_at_call 48; with_reducible refine (C4 _ LS.out.lk).out.mono ?_; rintro e w4 ⟨rfl, hb⟩; replace OS := Lib.hid (OS.out.below hb OS.out.lt); replace LS := Lib.hid (LS.out.later hb); replace BEL := Lib.hid (BEL.out.trans (hb.mono BEL.out.size)); clear hb; replace lOS := OS.out.cell; replace zOS := OS.out.lt) | fail)
  clear C4
  cases x1
  case false =>
    have E := Lib.hid (show res = false by rw [HE.out]; simp)
    clear HE
    go_wp2_with fail
    go_ret
    exact ⟨ret_bool E.out.symm, BEL.out⟩
  cases x2
  case false =>
    have E := Lib.hid (show res = false by rw [HE.out]; simp)
    clear HE
    go_wp2_with fail
    go_ret
    exact ⟨ret_bool E.out.symm, BEL.out⟩
  cases x3
  case false =>
    have E := Lib.hid (show res = false by rw [HE.out]; simp)
    clear HE
    go_wp2_with fail
    go_ret
    exact ⟨ret_bool E.out.symm, BEL.out⟩
  cases x4
  case false =>
    have E := Lib.hid (show res = false by rw [HE.out]; simp)
    clear HE
    go_wp2_with fail
    go_ret
    exact ⟨ret_bool E.out.symm, BEL.out⟩
  by_cases q : r < 1
  case pos =>
    have g1 : decide (r < 1) = true := decide_eq_true q
    have e : inB r 1 8 = false := by unfold inB; rw [decide_eq_false (show ¬ 1 ≤ r by omega)]; rfl
    have E := Lib.hid (show res = false by rw [HE.out, e]; simp)
    clear HE e
    go_wp2_with fail
    go_ret
    exact ⟨ret_bool E.out.symm, BEL.out⟩
  have g1_ : decide (r < 1) = false := decide_eq_false q
  have p1 : 1 ≤ r := by omega
  clear q
  by_cases q : 8 < r
  case pos =>
    have g1 : decide (8 < r) = true := decide_eq_true q
    have e : inB r 1 8 = false := by unfold inB; rw [decide_eq_false (show ¬ r ≤ 8 by omega)]; simp
    have E := Lib.hid (show res = false by rw [HE.out, e]; simp)
    clear HE e
    go_wp2_with fail
    go_ret
    exact ⟨ret_bool E.out.symm, BEL.out⟩
  have g2_ : decide (8 < r) = false := decide_eq_false q
  have p2 : r ≤ 8 := by omega
  clear q
  by_cases q : 40 < n + m
  case pos =>
    have g1 : decide ((40 : Int) < (n : Int) + (m : Int)) = true := decide_eq_true (by omega)
    have E := Lib.hid (show res = false by rw [HE.out]; rw [decide_eq_false (show ¬ n + m ≤ 40 by omega)]; simp)
    clear HE
    go_wp2_with fail
    go_ret
    exact ⟨ret_bool E.out.symm, BEL.out⟩
  have gnm : decide ((40 : Int) < (n : Int) + (m : Int)) = false := decide_eq_false (by omega)
  have pnm : n + m ≤ 40 := by omega
  clear q
  go_upto_region 7 with fail
  by_cases q : count < 0
  case pos =>
    have g1 : decide (count < 0) = true := decide_eq_true q
    have e : inB count 0 1000 = false := by unfold inB; rw [decide_eq_false (show ¬ 0 ≤ count by omega)]; rfl
    have E := Lib.hid (show res = false by rw [HE.out, e]; simp)
    clear HE e
    go_wp2_with fail
    go_ret
    exact ⟨ret_bool E.out.symm, BEL.out⟩
  have g3_ : decide (count < 0) = false := decide_eq_false q
  have p3 : 0 ≤ count := by omega
  clear q
  by_cases q : 1000 < count
  case pos =>
    have g1 : decide (1000 < count) = true := decide_eq_true q
    have e : inB count 0 1000 = false := by unfold inB; rw [decide_eq_false (show ¬ count ≤ 1000 by omega)]; simp
    have E := Lib.hid (show res = false by rw [HE.out, e]; simp)
    clear HE e
    go_wp2_with fail
    go_ret
    exact ⟨ret_bool E.out.symm, BEL.out⟩
  have g4_ : decide (1000 < count) = false := decide_eq_false q
  have p4 : count ≤ 1000 := by omega
  clear q
  by_cases q : clock < 0
  case pos =>
    have g1 : decide (clock < 0) = true := decide_eq_true q
    have e : inB clock 0 1000000 = false := by unfold inB; rw [decide_eq_false (show ¬ 0 ≤ clock by omega)]; rfl
    have E := Lib.hid (show res = false by rw [HE.out, e]; simp)
    clear HE e
    go_wp2_with fail
    go_ret
    exact ⟨ret_bool E.out.symm, BEL.out⟩
  have g5_ : decide (clock < 0) = false := decide_eq_false q
  have p5 : 0 ≤ clock := by omega
  clear q
  by_cases q : 1000000 < clock
  case pos =>
    have g1 : decide (1000000 < clock) = true := decide_eq_true q
    have e : inB clock 0 1000000 = false := by unfold inB; rw [decide_eq_false (show ¬ clock ≤ 1000000 by omega)]; simp
    have E := Lib.hid (show res = false by rw [HE.out, e]; simp)
    clear HE e
    go_wp2_with fail
    go_ret
    exact ⟨ret_bool E.out.symm, BEL.out⟩
  have g6_ : decide (1000000 < clock) = false := decide_eq_false q
  have p6 : clock ≤ 1000000 := by omega
  clear q
  by_cases q : epoch < 0
  case pos =>
    have g1 : decide (epoch < 0) = true := decide_eq_true q
    have e : inB epoch 0 1000000 = false := by unfold inB; rw [decide_eq_false (show ¬ 0 ≤ epoch by omega)]; rfl
    have E := Lib.hid (show res = false by rw [HE.out, e]; simp)
    clear HE e
    go_wp2_with fail
    go_ret
    exact ⟨ret_bool E.out.symm, BEL.out⟩
  have g7_ : decide (epoch < 0) = false := decide_eq_false q
  have p7 : 0 ≤ epoch := by omega
  clear q
  by_cases q : 1000000 < epoch
  case pos =>
    have g1 : decide (1000000 < epoch) = true := decide_eq_true q
    have e : inB epoch 0 1000000 = false := by unfold inB; rw [decide_eq_false (show ¬ epoch ≤ 1000000 by omega)]; simp
    have E := Lib.hid (show res = false by rw [HE.out, e]; simp)
    clear HE e
    go_wp2_with fail
    go_ret
    exact ⟨ret_bool E.out.symm, BEL.out⟩
  have g8_ : decide (1000000 < epoch) = false := decide_eq_false q
  have p8 : epoch ≤ 1000000 := by omega
  clear q
  have HE2 := Lib.hid (show res = (tw && (sa && (sb && !bb))) by
    rw [HE.out]
    have e1 : inB r 1 8 = true := by unfold inB; rw [decide_eq_true p1, decide_eq_true p2]; rfl
    have e2 : inB count 0 1000 = true := by unfold inB; rw [decide_eq_true p3, decide_eq_true p4]; rfl
    have e3 : inB clock 0 1000000 = true := by unfold inB; rw [decide_eq_true p5, decide_eq_true p6]; rfl
    have e4 : inB epoch 0 1000000 = true := by unfold inB; rw [decide_eq_true p7, decide_eq_true p8]; rfl
    rw [e1, e2, e3, e4, decide_eq_true pnm]; simp)
  go_wp2_with fail
  clear HE lOS zOS
  clear g1_ g2_ g3_ g4_ g5_ g6_ g7_ g8_ gnm p1 p2 p3 p4 p5 p6 p7 p8 pnm kw kw2
  have HI0 : Hid (MkS w (stA ⟨r, f, store, out, k, count, clock, epoch⟩ fv (.slice os n cs) (.slice oo m co) kv) _) := Lib.hid ⟨OS.out, BEL.out⟩
  have LS0 := LS
  clear LS
  go_loopw [7] (fun iv wr => AllL (fun i : Itm => !(getI store i.id).2) out m (stA ⟨r, f, store, out, k, count, clock, epoch⟩ fv (.slice os n cs) (.slice oo m co) kv) w iv wr) (fun iv _ => m - (intOf iv).toNat)
  case atStart => exact ⟨0, Nat.zero_le _, rfl, fun j f hj => absurd hj (by omega), HI0⟩
  case round =>
    clear HI0 OS BEL
    obtain ⟨j, hj, rfl, HA, HS⟩ := hrel
    have lOS := HS.out.o1.cell
    have zOS := HS.out.o1.lt
    by_cases hlt : j < m
    · obtain ⟨i, hf⟩ : ∃ f, out[j]? = some f := ⟨_, List.getElem?_eq_getElem (by rw [HNO.out]; exact hlt)⟩
      obtain ⟨rfl, hb0⟩ := HR.out.at0 (by rw [HNO.out]; omega)
      have HF := Lib.hid hf
      have HCE := Lib.hid (fun (wx : World) (hb : Below w.heap.size w wx) => (ic_cells (w := wx) (fun q z hz => (hb.cell (p := ⟨b, o + j * 8 + q, none⟩) hb0).trans (HR.out.cell j i hf q z hz))).1)
      have zb := Nat.lt_of_lt_of_le hb0 HS.out.bel.size
      have HB0 := Lib.hid hb0
      have k0 : (0 : Int) ≤ (j : Int) := by omega
      have k1 : (j : Int) < (m : Int) := by omega
      clear hf hb0
      have GI := fun w' h => Lib.hid (GT i.id w' h).out
      generalize hg : getI store i.id = g at *
      obtain ⟨gi, gb⟩ := g
      have HG := Lib.hid hg
      clear hg
      simp only at GI
      go_upto_region 12 with fail
      go_cut [9] (fun s wx => s = .bool gb ∧ Hid (MkS w (stA ⟨r, f, store, out, k, count, clock, epoch⟩ fv (.slice os n cs) (.slice (some ⟨b, o, none⟩) m co) kv) wx))
      case first =>
        have LH0 := HS
        have LR0 := Lib.hid (HW.out.ls.since HS.out.bel)
        have LH := Lib.hid (HS.out.later (Below.refl _ _).drew)
        have LR := Lib.hid (LR0.out.later (Below.refl _ _).drew)
        clear HS lOS zOS
        first
          | (go_region_held3 (fun w' => (∀ q, w'.cell? ⟨w.heap.size, q, none⟩ = (stA ⟨r, f, store, out, k, count, clock, epoch⟩ fv (.slice os n cs) (.slice (some ⟨b, o, none⟩) m co) kv)[q]?) ∧ w'.cell? ⟨b, o + j * 8, none⟩ = some (.string i.id)) (first | with_reducible exact ⟨LH.out.o1.cell, HCE.out _ LH.out.bel⟩ | with_reducible exact ⟨(LH.out.alloc _).o1.cell, HCE.out _ (LH.out.alloc _).bel⟩ | with_reducible exact ⟨((LH0.out.alloc _).later (Below.refl _ _).drew).o1.cell, HCE.out _ ((LH0.out.alloc _).later (Below.refl _ _).drew).bel⟩ | with_reducible exact ⟨(LH.out.set8 LH0.out.o1.lt _ _ _ _ _ _ _ _).o1.cell, HCE.out _ (LH.out.set8 LH0.out.o1.lt _ _ _ _ _ _ _ _).bel⟩)
              (first
                | (go_simp; go_at_call 53; with_reducible refine (GI _ LR.out).out.mono ?_; rintro e wa ⟨rfl, hb⟩; replace LH := Lib.hid (LH.out.later hb); clear hb)
                | (go_simp; go_at_call 53; replace LH := Lib.hid ((LH0.out.alloc (.cells #[.string ⟨#[]⟩, .int .i64 0, .int .i64 0, .int .i64 0, .string ⟨#[]⟩, .int .i64 0, .complex .f64 0 0, .bool false] 68)).later (Below.refl _ _).drew); replace LR := Lib.hid ((LR0.out.alloc (.cells #[.string ⟨#[]⟩, .int .i64 0, .int .i64 0, .int .i64 0, .string ⟨#[]⟩, .int .i64 0, .complex .f64 0 0, .bool false] 68)).later (Below.refl _ _).drew); have O8 := Lib.hid ((Own.new wr #[.string ⟨#[]⟩, .int .i64 0, .int .i64 0, .int .i64 0, .string ⟨#[]⟩, .int .i64 0, .complex .f64 0 0, .bool false] 68).drew); with_reducible refine (GI _ LR.out).out.mono ?_; rintro e wa ⟨rfl, hb⟩; replace LH := Lib.hid (LH.out.later hb); replace O8 := Lib.hid (O8.out.later hb); clear hb; have l8 := O8.out.cell; have f8 := O8.out.free; have z8 := O8.out.lt)
                | fail))
          | fail
        all_goals
          go_wp2_with fail
          go_meet
          first | with_reducible exact ⟨rfl, Lib.hid (LH.out.alloc _)⟩ | with_reducible exact ⟨rfl, Lib.hid (LH.out.set8 LH0.out.o1.lt _ _ _ _ _ _ _ _)⟩
      case rest =>
        obtain ⟨rfl, hh⟩ := hcut
        clear HS lOS zOS zb
        have HS := Lib.hid hh.out
        clear hh
        cases gb
        · have HN2 := Lib.hid (allL_next (p := fun i : Itm => !(getI store i.id).2) HA.out HF.out (by rw [HG.out]; rfl))
          go_wp2_with fail
          go_roundw
          case rel => exact ⟨j + 1, by omega, by go_num, HN2, HS⟩
          case measure => simp [intOf]; omega
        · have E := Lib.hid (show res = false by
            rw [HE2.out, HT.out, all_not_of HF.out (by rw [HG.out]; rfl)]; rfl)
          go_wp2_with fail
          go_ret
          exact ⟨ret_bool E.out.symm, HS.out.bel⟩
    · have e : m = j := by omega
      subst e
      have HE3 := Lib.hid (show res = (sa && (sb && !bb)) by
        rw [HE2.out, HT.out, all_of fun q g hq hg => HA.out q g (by have := HNO.out; omega) hg]; rfl)
      have OS := Lib.hid HS.out.o1
      have BEL := Lib.hid HS.out.bel
      have LS := Lib.hid (HW.out.since HS.out.bel)
      clear HE2 HA HT
      go_upto_region 16 with (first | (refine wpList_load_mid (by rfl) 52 _ (by rfl) w.heap.size 0 (by rfl) _ _ (has_range OS.out) Tryz.underlying52 (by rfl) (by kernel_rfl) ?_) | (go_at_call 54; with_reducible refine (C5 _ LS.out LS.out.ls).out.mono ?_; rintro e w15 ⟨rfl, hb⟩; replace OS := Lib.hid (OS.out.below hb OS.out.lt); replace LS := Lib.hid (LS.out.later hb); replace BEL := Lib.hid (BEL.out.trans (hb.mono BEL.out.size)); clear hb; replace lOS := OS.out.cell; replace zOS := OS.out.lt) | fail)
      clear C5
      go_upto_region 17 with (first | (refine wpList_load_mid (by rfl) 52 _ (by rfl) w.heap.size 0 (by rfl) _ _ (has_range OS.out) Tryz.underlying52 (by rfl) (by kernel_rfl) ?_) | (go_at_call 54; with_reducible refine (C6 _ LS.out LS.out.lo).out.mono ?_; rintro e w16 ⟨rfl, hb⟩; replace OS := Lib.hid (OS.out.below hb OS.out.lt); replace LS := Lib.hid (LS.out.later hb); replace BEL := Lib.hid (BEL.out.trans (hb.mono BEL.out.size)); clear hb; replace lOS := OS.out.cell; replace zOS := OS.out.lt) | fail)
      clear C6
      go_upto_region 18 with (first | (go_at_call 55; with_reducible refine (C7 _ LS.out.lk).out.mono ?_; rintro e w17 ⟨rfl, hb⟩; replace OS := Lib.hid (OS.out.below hb OS.out.lt); replace LS := Lib.hid (LS.out.later hb); replace BEL := Lib.hid (BEL.out.trans (hb.mono BEL.out.size)); clear hb; replace lOS := OS.out.cell; replace zOS := OS.out.lt) | fail)
      clear C7
      cases sa
      all_goals
        cases sb
        all_goals
          cases bb
          all_goals
            go_wp2_with fail
            go_ret
            exact ⟨ret_bool (by rw [HE3.out]; rfl), BEL.out⟩
end Go.Proofs.YthbjgfennclidaaGreat
