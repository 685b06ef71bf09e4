/- The document's Add. Walked. -/
import Derived.Test.YteofkbidahefeaaDskC
import Derived.Lib.SliceRun
import Derived.Deep.DeepCutAuto
import Derived.Deep.CutBlock
import Derived.Deep.RegionLaw
namespace Go.Proofs.Yteofkbidahefeaa
set_option linter.unusedVariables false
set_option linter.unusedSimpArgs false
set_option maxRecDepth 100000
open Go.RowKit

/-- Bytes lie there behind a store elsewhere. -/
theorem byW_set {w : World} {l : List Nat} {v x : Value} {g o : Nat} (h : ByW w l v) (hne : ∀ oa n c, v = .slice oa n c → ∀ a, oa = some a → 0 < l.length → a.block ≠ g) : ByW (w.setCell ⟨g, o, none⟩ x) l v := by
  obtain ⟨oa, cap, b, o', e, h⟩ := h
  refine ⟨oa, cap, b, o', e, h.len, h.max, fun h0 => ⟨(h.at0 h0).1, by simpa [World.setCell] using (h.at0 h0).2⟩, fun k n hk => ?_, h.ok⟩
  have h0 : 0 < l.length := by have := posB hk; omega
  have := hne oa _ _ e _ (h.at0 h0).1 h0
  exact (World.cell?_of_block (w := w) (a := ⟨b, o' + k, none⟩) (Below.heap_setCell _ _ _ _ this)).trans (h.cell k n hk)
/-- None of the bytes lies in block g. -/
def NotIn (g : Nat) (l : List Nat) (v : Value) : Prop := ∀ oa n c, v = .slice oa n c → ∀ a, oa = some a → 0 < l.length → a.block ≠ g
theorem notIn_upto {g n : Nat} {l : List Nat} {oa : Option Addr} {k cap : Nat} (h : NotIn g l (.slice oa k cap)) : NotIn g (l.take n) (.slice (slA oa 0 cap) n cap) := by
  intro oa' n' c e a ha h0
  cases e
  unfold slA at ha
  have h1 : 0 < l.length := by simp at h0; omega
  split at ha
  · exact h _ _ _ rfl a ha h1
  · obtain ⟨a0, h2, rfl⟩ := Option.map_eq_some_iff.1 ha
    have h3 := h _ _ _ rfl a0 h2 h1
    unfold Addr.add
    split <;> exact h3
attribute [local go_sem ↓] run_slice_hI
set_option maxHeartbeats 4000000 in
theorem dmAdd_calls (d : Dk) (m : List Nat) (base g : Nat) (v sv : Value) (w : World) (h : Bx w base g (dmA d v) 28 d.l v) (hf : d.okF) (hM : ByW w m sv) (hN : NotIn g m sv) (hn : d.l.length + m.length ≤ 140737488355328) :
    Calls Try.prog 19 #[.pointer (some ⟨g, 0, none⟩), sv] w fun e w' => DkP base g v w (dmA (addD d m)) 28 (addD d m).l (.int .i64 (addE d m)) e w' := by
  have l0 := h.o.cell
  unfold dmA at l0
  have f0 := h.o.free
  have z0 := h.o.lt
  have H := Lib.hid h
  clear h
  obtain ⟨l, fu, dn⟩ := d
  obtain ⟨oa, cap, rfl, hc, hm⟩ := H.out.row.val
  obtain ⟨ob, cb, rfl, hc2, hm2⟩ := hM.val
  have HM := Lib.hid hM
  have hok := hM.ok
  have HOK := Lib.hid hok
  have HNI := Lib.hid hN
  clear hM hok hN
  dsimp only at l0 H hc hm hn ⊢
  unfold maxLen at hm hm2
  cases dn
  · cases fu with
    | none =>
      simp only [Dk.fr] at l0
      have e1 : addD ⟨l, none, false⟩ m = ⟨l ++ m, none, false⟩ := by simp [addD]
      have e2 : addE ⟨l, none, false⟩ m = 0 := by simp [addE]
      rw [e1, e2]
      clear e1 e2
      have HT := Lib.hid (H.out.stay)
      have HD := Lib.hid HT.out.bx
      have MT := Lib.hid (show ByW (w) (m.take m.length) (.slice (slA ob 0 cb) m.length cb) from HM.out.upto _ (by omega))
      have B0 := Lib.hid (Below.refl (w).heap.size (w))
      have OA : Hid (Own (w) g #[.slice oa l.length cap, .int .i64 (-1), .bool false] 28) := HT.out.bx.o
      go_enter Try.func19, Try.ntmps19
      go_upto_region 7 with fail
      clear l0 f0 z0
      refine monoN_start (T := fun j => j = g ∨ (w).heap.size ≤ j) (D := fun k => k == 6 || k == 10 || k == 13) (by kernel_rfl) (fun wd hbd => ?_)
      replace OA := Lib.hid (OA.out.later hbd)
      replace B0 := Lib.hid (B0.out.trans (Below.mono hbd B0.out.size))
      clear hbd
      refine monoN_stay (i := 0) (v := ?_) rfl (by kernel_rfl) (by kernel_rfl) (by kernel_rfl) (fun _ _ _ h => h) (Or.inl ⟨by rfl, ?_⟩) ?_
      rotate_left 1
      · (intro wL hL; go_simp; try with_reducible rfl)
      try simp only [Act.put, List.getElem_toArray, List.getElem_cons_zero, List.getElem_cons_succ, List.setIfInBounds_toArray, List.set_cons_zero, List.set_cons_succ]
      refine monoN_stay (i := 2) (v := ?_) rfl (by kernel_rfl) (by kernel_rfl) (by kernel_rfl) (fun _ _ _ h => h) (Or.inl ⟨by rfl, ?_⟩) ?_
      rotate_left 1
      · (intro wL hL; go_simp; try with_reducible rfl)
      try simp only [Act.put, List.getElem_toArray, List.getElem_cons_zero, List.getElem_cons_succ, List.setIfInBounds_toArray, List.set_cons_zero, List.set_cons_succ]
      refine monoN_stay (i := 3) (v := ?_) rfl (by kernel_rfl) (by kernel_rfl) (by kernel_rfl) (fun _ _ _ h => h) (Or.inl ⟨by rfl, ?_⟩) ?_
      rotate_left 1
      · (intro wL hL; go_simp; try with_reducible rfl)
      try simp only [Act.put, List.getElem_toArray, List.getElem_cons_zero, List.getElem_cons_succ, List.setIfInBounds_toArray, List.set_cons_zero, List.set_cons_succ]
      refine monoN_stay (i := 4) (v := ?_) rfl (by kernel_rfl) (by kernel_rfl) (by kernel_rfl) (fun _ _ _ h => h) (Or.inl ⟨by rfl, ?_⟩) ?_
      rotate_left 1
      · (intro wL hL; go_simp; try with_reducible rfl)
      try simp only [Act.put, List.getElem_toArray, List.getElem_cons_zero, List.getElem_cons_succ, List.setIfInBounds_toArray, List.set_cons_zero, List.set_cons_succ]
      refine monoN_stay (i := 7) (v := ?_) rfl (by kernel_rfl) (by kernel_rfl) (by kernel_rfl) (fun _ _ _ h => h) (Or.inl ⟨by rfl, ?_⟩) ?_
      rotate_left 1
      · (intro wL hL; go_simp; try with_reducible rfl)
      try simp only [Act.put, List.getElem_toArray, List.getElem_cons_zero, List.getElem_cons_succ, List.setIfInBounds_toArray, List.set_cons_zero, List.set_cons_succ]
      refine monoN_stay (i := 8) (v := ?_) rfl (by kernel_rfl) (by kernel_rfl) (by kernel_rfl) (fun _ _ _ h => h) (Or.inl ⟨by rfl, ?_⟩) ?_
      rotate_left 1
      · (intro wL hL; go_simp; try with_reducible rfl)
      try simp only [Act.put, List.getElem_toArray, List.getElem_cons_zero, List.getElem_cons_succ, List.setIfInBounds_toArray, List.set_cons_zero, List.set_cons_succ]
      refine monoN_stay (i := 9) (v := ?_) rfl (by kernel_rfl) (by kernel_rfl) (by kernel_rfl) (fun _ _ _ h => h) (Or.inl ⟨by rfl, ?_⟩) ?_
      rotate_left 1
      · (intro wL hL; have q1 : ((m.length : Int) : Int) ≤ cb := (by omega); have q2 : (0 : Int) ≤ (m.length : Int) := (by omega); go_simp; try with_reducible rfl)
      try simp only [Act.put, List.getElem_toArray, List.getElem_cons_zero, List.getElem_cons_succ, List.setIfInBounds_toArray, List.set_cons_zero, List.set_cons_succ]
      refine monoN_r2 (i := 1) (j := 5) (by kernel_rfl) ?_ ?_
      · refine stepN_new (by rfl) (by rfl) (fun b => .slice (some ⟨b, 0, none⟩) 0 0) #[] 5 (by go_simp; try rfl) (fun b7 wn ge7 hb o7 => ?_)
        have HGE := Lib.hid (Nat.le_trans B0.out.size ge7)
        replace OA := Lib.hid (OA.out.later hb)
        replace B0 := Lib.hid (B0.out.trans (Below.mono hb B0.out.size))
        clear hb ge7
        have O7 := Lib.hid o7
        clear o7
        try simp only [Act.put, List.getElem_toArray, List.getElem_cons_zero, List.getElem_cons_succ, List.setIfInBounds_toArray, List.set_cons_zero, List.set_cons_succ]
        refine monoN_r1 (i := 5) (by kernel_rfl) ?_
        refine stepN_read (by rfl) (by rfl) (v := .slice oa l.length cap) (by have lL := OA.out.cell; have zL := OA.out.lt; go_simp; try rfl) ?_
        try simp only [Act.put, List.getElem_toArray, List.getElem_cons_zero, List.getElem_cons_succ, List.setIfInBounds_toArray, List.set_cons_zero, List.set_cons_succ]
        refine monoN_r1 (i := 6) (by kernel_rfl) ?_
        obtain ⟨v1, w1, hrun, hown, hgr, hsm⟩ := run_append_at 26 (own_none (base := (w).heap.size) O7.out HGE.out) ((HD.out.row.by HD.out.ok).later B0.out) (by simp only [List.length_nil]; omega) B0.out.size
        refine stepN_ok (by rfl) (by rfl) (w1 := w1) (v := v1) (exec_append _ _ _ _ (by rfl) _ _ (by rfl) (by rfl) hrun) (fun h => by cases h) ⟨hgr.size, fun b hb hS => hgr.block b hb (fun e => hS (.inr (by cases e; exact HGE.out)))⟩ ?_
        rw [List.nil_append] at hown
        replace B0 := Lib.hid (B0.out.grown hgr B0.out.size (fun j hj => by cases hj; exact HGE.out))
        have HR := Lib.hid hown
        clear hown hgr hsm hrun OA O7
        try simp only [Act.put, List.getElem_toArray, List.getElem_cons_zero, List.getElem_cons_succ, List.setIfInBounds_toArray, List.set_cons_zero, List.set_cons_succ]
        refine monoN_r1 (i := 10) (by kernel_rfl) ?_
        obtain ⟨v2, w2, hrun, hown, hgr, hsm⟩ := run_append_at 26 HR.out (MT.out.later B0.out) (by simp only [List.length_take]; omega) B0.out.size
        refine stepN_ok (by rfl) (by rfl) (w1 := w2) (v := v2) (exec_append _ _ _ _ (by rfl) _ _ (by rfl) (by rfl) hrun) (fun h => by cases h) ⟨hgr.size, fun b hb hS => hgr.block b hb (fun e => hS (.inr (World.ownsRow.lt HR.out b e.symm).1))⟩ ?_
        replace B0 := Lib.hid (B0.out.grown hgr B0.out.size (fun j hj => (World.ownsRow.lt HR.out j hj).1))
        have OB := Lib.hid (HD.out.o.later B0.out)
        obtain ⟨o1, c1, rfl, _, _⟩ := hown.val
        have HW := Lib.hid hown
        clear hown hgr hsm hrun HR
        try simp only [Act.put, List.getElem_toArray, List.getElem_cons_zero, List.getElem_cons_succ, List.setIfInBounds_toArray, List.set_cons_zero, List.set_cons_succ]
        refine monoN_stay (i := 11) (v := ?_) rfl (by kernel_rfl) (by kernel_rfl) (by kernel_rfl) (fun _ _ _ h => h) (Or.inl ⟨by rfl, ?_⟩) ?_
        rotate_left 1
        · (intro wL hL; go_simp; try with_reducible rfl)
        try simp only [Act.put, List.getElem_toArray, List.getElem_cons_zero, List.getElem_cons_succ, List.setIfInBounds_toArray, List.set_cons_zero, List.set_cons_succ]
        refine monoN_stay (i := 12) (v := ?_) rfl (by kernel_rfl) (by kernel_rfl) (by kernel_rfl) (fun _ _ _ h => h) (Or.inl ⟨by rfl, ?_⟩) ?_
        rotate_left 1
        · (intro wL hL; go_simp; try with_reducible rfl)
        try simp only [Act.put, List.getElem_toArray, List.getElem_cons_zero, List.getElem_cons_succ, List.setIfInBounds_toArray, List.set_cons_zero, List.set_cons_succ]
        refine monoN_r1 (i := 13) (by kernel_rfl) ?_
        refine stepN_set (by rfl) (by rfl) g 0 (.slice o1 (l ++ m.take m.length).length c1) (by have lL := OB.out.cell; have fL := OB.out.free; have zL := OB.out.lt; go_simp; try rfl) (by rfl) (.inl rfl) ?_
        try simp only [Act.put, List.getElem_toArray, List.getElem_cons_zero, List.getElem_cons_succ, List.setIfInBounds_toArray, List.set_cons_zero, List.set_cons_succ]
        refine monoN_done (by kernel_rfl) ?_ _
        have l1 := OB.out.cell
        simp only [dmA, Dk.fr, Option.isSome_some] at l1
        have f1 := OB.out.free
        have z1 := OB.out.lt
        go_wp2_with fail
        go_ret
        refine ⟨.slice o1 (l ++ m.take m.length).length c1, rfl, ?_⟩
        have hp := HT.out.trans (HD.out.renewed dm_ne HW.out B0.out (ok_append HD.out.ok (fun x hx => HOK.out x (List.mem_of_mem_take hx))) 0)
        have e4 : dmA ⟨l ++ m, none, false⟩ (.slice o1 (l ++ m.take m.length).length c1) = (dmA ⟨l, none, false⟩ (.slice oa l.length cap)).setIfInBounds 0 (.slice o1 (l ++ m.take m.length).length c1) := by simp [dmA, Dk.fr]
        rw [e4]
        simp only [List.take_length, List.length_append] at hp ⊢
        exact hp
      · refine stepN_read (by rfl) (by rfl) (v := .slice oa l.length cap) (by have lL := OA.out.cell; have zL := OA.out.lt; go_simp; try rfl) ?_
        try simp only [Act.put, List.getElem_toArray, List.getElem_cons_zero, List.getElem_cons_succ, List.setIfInBounds_toArray, List.set_cons_zero, List.set_cons_succ]
        refine monoN_r1 (i := 1) (by kernel_rfl) ?_
        refine stepN_new (by rfl) (by rfl) (fun b => .slice (some ⟨b, 0, none⟩) 0 0) #[] 5 (by go_simp; try rfl) (fun b7 wn ge7 hb o7 => ?_)
        have HGE := Lib.hid (Nat.le_trans B0.out.size ge7)
        replace OA := Lib.hid (OA.out.later hb)
        replace B0 := Lib.hid (B0.out.trans (Below.mono hb B0.out.size))
        clear hb ge7
        have O7 := Lib.hid o7
        clear o7
        try simp only [Act.put, List.getElem_toArray, List.getElem_cons_zero, List.getElem_cons_succ, List.setIfInBounds_toArray, List.set_cons_zero, List.set_cons_succ]
        refine monoN_r1 (i := 6) (by kernel_rfl) ?_
        obtain ⟨v1, w1, hrun, hown, hgr, hsm⟩ := run_append_at 26 (own_none (base := (w).heap.size) O7.out HGE.out) ((HD.out.row.by HD.out.ok).later B0.out) (by simp only [List.length_nil]; omega) B0.out.size
        refine stepN_ok (by rfl) (by rfl) (w1 := w1) (v := v1) (exec_append _ _ _ _ (by rfl) _ _ (by rfl) (by rfl) hrun) (fun h => by cases h) ⟨hgr.size, fun b hb hS => hgr.block b hb (fun e => hS (.inr (by cases e; exact HGE.out)))⟩ ?_
        rw [List.nil_append] at hown
        replace B0 := Lib.hid (B0.out.grown hgr B0.out.size (fun j hj => by cases hj; exact HGE.out))
        have HR := Lib.hid hown
        clear hown hgr hsm hrun OA O7
        try simp only [Act.put, List.getElem_toArray, List.getElem_cons_zero, List.getElem_cons_succ, List.setIfInBounds_toArray, List.set_cons_zero, List.set_cons_succ]
        refine monoN_r1 (i := 10) (by kernel_rfl) ?_
        obtain ⟨v2, w2, hrun, hown, hgr, hsm⟩ := run_append_at 26 HR.out (MT.out.later B0.out) (by simp only [List.length_take]; omega) B0.out.size
        refine stepN_ok (by rfl) (by rfl) (w1 := w2) (v := v2) (exec_append _ _ _ _ (by rfl) _ _ (by rfl) (by rfl) hrun) (fun h => by cases h) ⟨hgr.size, fun b hb hS => hgr.block b hb (fun e => hS (.inr (World.ownsRow.lt HR.out b e.symm).1))⟩ ?_
        replace B0 := Lib.hid (B0.out.grown hgr B0.out.size (fun j hj => (World.ownsRow.lt HR.out j hj).1))
        have OB := Lib.hid (HD.out.o.later B0.out)
        obtain ⟨o1, c1, rfl, _, _⟩ := hown.val
        have HW := Lib.hid hown
        clear hown hgr hsm hrun HR
        try simp only [Act.put, List.getElem_toArray, List.getElem_cons_zero, List.getElem_cons_succ, List.setIfInBounds_toArray, List.set_cons_zero, List.set_cons_succ]
        refine monoN_stay (i := 11) (v := ?_) rfl (by kernel_rfl) (by kernel_rfl) (by kernel_rfl) (fun _ _ _ h => h) (Or.inl ⟨by rfl, ?_⟩) ?_
        rotate_left 1
        · (intro wL hL; go_simp; try with_reducible rfl)
        try simp only [Act.put, List.getElem_toArray, List.getElem_cons_zero, List.getElem_cons_succ, List.setIfInBounds_toArray, List.set_cons_zero, List.set_cons_succ]
        refine monoN_stay (i := 12) (v := ?_) rfl (by kernel_rfl) (by kernel_rfl) (by kernel_rfl) (fun _ _ _ h => h) (Or.inl ⟨by rfl, ?_⟩) ?_
        rotate_left 1
        · (intro wL hL; go_simp; try with_reducible rfl)
        try simp only [Act.put, List.getElem_toArray, List.getElem_cons_zero, List.getElem_cons_succ, List.setIfInBounds_toArray, List.set_cons_zero, List.set_cons_succ]
        refine monoN_r1 (i := 13) (by kernel_rfl) ?_
        refine stepN_set (by rfl) (by rfl) g 0 (.slice o1 (l ++ m.take m.length).length c1) (by have lL := OB.out.cell; have fL := OB.out.free; have zL := OB.out.lt; go_simp; try rfl) (by rfl) (.inl rfl) ?_
        try simp only [Act.put, List.getElem_toArray, List.getElem_cons_zero, List.getElem_cons_succ, List.setIfInBounds_toArray, List.set_cons_zero, List.set_cons_succ]
        refine monoN_done (by kernel_rfl) ?_ _
        have l1 := OB.out.cell
        simp only [dmA, Dk.fr, Option.isSome_some] at l1
        have f1 := OB.out.free
        have z1 := OB.out.lt
        go_wp2_with fail
        go_ret
        refine ⟨.slice o1 (l ++ m.take m.length).length c1, rfl, ?_⟩
        have hp := HT.out.trans (HD.out.renewed dm_ne HW.out B0.out (ok_append HD.out.ok (fun x hx => HOK.out x (List.mem_of_mem_take hx))) 0)
        have e4 : dmA ⟨l ++ m, none, false⟩ (.slice o1 (l ++ m.take m.length).length c1) = (dmA ⟨l, none, false⟩ (.slice oa l.length cap)).setIfInBounds 0 (.slice o1 (l ++ m.take m.length).length c1) := by simp [dmA, Dk.fr]
        rw [e4]
        simp only [List.take_length, List.length_append] at hp ⊢
        exact hp
    | some n =>
      simp only [Dk.fr] at l0
      have hf1 := hf n rfl
      clear hf
      by_cases hlt : m.length < n
      · have e1 : addD ⟨l, some n, false⟩ m = ⟨l ++ m, some (n - m.length), false⟩ := by simp [addD, hlt]
        have e2 : addE ⟨l, some n, false⟩ m = 0 := by simp [addE, hlt]
        rw [e1, e2]
        clear e1 e2
        have g2 : decide ((n : Int) ≤ (m.length : Int)) = false := decide_eq_false (by omega)
        have HT := Lib.hid (H.out.stay)
        have HD := Lib.hid HT.out.bx
        have MT := Lib.hid (show ByW (w) (m.take m.length) (.slice (slA ob 0 cb) m.length cb) from HM.out.upto _ (by omega))
        have B0 := Lib.hid (Below.refl (w).heap.size (w))
        have OA : Hid (Own (w) g #[.slice oa l.length cap, .int .i64 (n : Int), .bool false] 28) := HT.out.bx.o
        go_enter Try.func19, Try.ntmps19
        go_upto_region 7 with fail
        clear l0 f0 z0
        refine monoN_start (T := fun j => j = g ∨ (w).heap.size ≤ j) (D := fun k => k == 6 || k == 10 || k == 13) (by kernel_rfl) (fun wd hbd => ?_)
        replace OA := Lib.hid (OA.out.later hbd)
        replace B0 := Lib.hid (B0.out.trans (Below.mono hbd B0.out.size))
        clear hbd
        refine monoN_stay (i := 0) (v := ?_) rfl (by kernel_rfl) (by kernel_rfl) (by kernel_rfl) (fun _ _ _ h => h) (Or.inl ⟨by rfl, ?_⟩) ?_
        rotate_left 1
        · (intro wL hL; go_simp; try with_reducible rfl)
        try simp only [Act.put, List.getElem_toArray, List.getElem_cons_zero, List.getElem_cons_succ, List.setIfInBounds_toArray, List.set_cons_zero, List.set_cons_succ]
        refine monoN_stay (i := 2) (v := ?_) rfl (by kernel_rfl) (by kernel_rfl) (by kernel_rfl) (fun _ _ _ h => h) (Or.inl ⟨by rfl, ?_⟩) ?_
        rotate_left 1
        · (intro wL hL; go_simp; try with_reducible rfl)
        try simp only [Act.put, List.getElem_toArray, List.getElem_cons_zero, List.getElem_cons_succ, List.setIfInBounds_toArray, List.set_cons_zero, List.set_cons_succ]
        refine monoN_stay (i := 3) (v := ?_) rfl (by kernel_rfl) (by kernel_rfl) (by kernel_rfl) (fun _ _ _ h => h) (Or.inl ⟨by rfl, ?_⟩) ?_
        rotate_left 1
        · (intro wL hL; go_simp; try with_reducible rfl)
        try simp only [Act.put, List.getElem_toArray, List.getElem_cons_zero, List.getElem_cons_succ, List.setIfInBounds_toArray, List.set_cons_zero, List.set_cons_succ]
        refine monoN_stay (i := 4) (v := ?_) rfl (by kernel_rfl) (by kernel_rfl) (by kernel_rfl) (fun _ _ _ h => h) (Or.inl ⟨by rfl, ?_⟩) ?_
        rotate_left 1
        · (intro wL hL; go_simp; try with_reducible rfl)
        try simp only [Act.put, List.getElem_toArray, List.getElem_cons_zero, List.getElem_cons_succ, List.setIfInBounds_toArray, List.set_cons_zero, List.set_cons_succ]
        refine monoN_stay (i := 7) (v := ?_) rfl (by kernel_rfl) (by kernel_rfl) (by kernel_rfl) (fun _ _ _ h => h) (Or.inl ⟨by rfl, ?_⟩) ?_
        rotate_left 1
        · (intro wL hL; go_simp; try with_reducible rfl)
        try simp only [Act.put, List.getElem_toArray, List.getElem_cons_zero, List.getElem_cons_succ, List.setIfInBounds_toArray, List.set_cons_zero, List.set_cons_succ]
        refine monoN_stay (i := 8) (v := ?_) rfl (by kernel_rfl) (by kernel_rfl) (by kernel_rfl) (fun _ _ _ h => h) (Or.inl ⟨by rfl, ?_⟩) ?_
        rotate_left 1
        · (intro wL hL; go_simp; try with_reducible rfl)
        try simp only [Act.put, List.getElem_toArray, List.getElem_cons_zero, List.getElem_cons_succ, List.setIfInBounds_toArray, List.set_cons_zero, List.set_cons_succ]
        refine monoN_stay (i := 9) (v := ?_) rfl (by kernel_rfl) (by kernel_rfl) (by kernel_rfl) (fun _ _ _ h => h) (Or.inl ⟨by rfl, ?_⟩) ?_
        rotate_left 1
        · (intro wL hL; have q1 : ((m.length : Int) : Int) ≤ cb := (by omega); have q2 : (0 : Int) ≤ (m.length : Int) := (by omega); go_simp; try with_reducible rfl)
        try simp only [Act.put, List.getElem_toArray, List.getElem_cons_zero, List.getElem_cons_succ, List.setIfInBounds_toArray, List.set_cons_zero, List.set_cons_succ]
        refine monoN_r2 (i := 1) (j := 5) (by kernel_rfl) ?_ ?_
        · refine stepN_new (by rfl) (by rfl) (fun b => .slice (some ⟨b, 0, none⟩) 0 0) #[] 5 (by go_simp; try rfl) (fun b7 wn ge7 hb o7 => ?_)
          have HGE := Lib.hid (Nat.le_trans B0.out.size ge7)
          replace OA := Lib.hid (OA.out.later hb)
          replace B0 := Lib.hid (B0.out.trans (Below.mono hb B0.out.size))
          clear hb ge7
          have O7 := Lib.hid o7
          clear o7
          try simp only [Act.put, List.getElem_toArray, List.getElem_cons_zero, List.getElem_cons_succ, List.setIfInBounds_toArray, List.set_cons_zero, List.set_cons_succ]
          refine monoN_r1 (i := 5) (by kernel_rfl) ?_
          refine stepN_read (by rfl) (by rfl) (v := .slice oa l.length cap) (by have lL := OA.out.cell; have zL := OA.out.lt; go_simp; try rfl) ?_
          try simp only [Act.put, List.getElem_toArray, List.getElem_cons_zero, List.getElem_cons_succ, List.setIfInBounds_toArray, List.set_cons_zero, List.set_cons_succ]
          refine monoN_r1 (i := 6) (by kernel_rfl) ?_
          obtain ⟨v1, w1, hrun, hown, hgr, hsm⟩ := run_append_at 26 (own_none (base := (w).heap.size) O7.out HGE.out) ((HD.out.row.by HD.out.ok).later B0.out) (by simp only [List.length_nil]; omega) B0.out.size
          refine stepN_ok (by rfl) (by rfl) (w1 := w1) (v := v1) (exec_append _ _ _ _ (by rfl) _ _ (by rfl) (by rfl) hrun) (fun h => by cases h) ⟨hgr.size, fun b hb hS => hgr.block b hb (fun e => hS (.inr (by cases e; exact HGE.out)))⟩ ?_
          rw [List.nil_append] at hown
          replace B0 := Lib.hid (B0.out.grown hgr B0.out.size (fun j hj => by cases hj; exact HGE.out))
          have HR := Lib.hid hown
          clear hown hgr hsm hrun OA O7
          try simp only [Act.put, List.getElem_toArray, List.getElem_cons_zero, List.getElem_cons_succ, List.setIfInBounds_toArray, List.set_cons_zero, List.set_cons_succ]
          refine monoN_r1 (i := 10) (by kernel_rfl) ?_
          obtain ⟨v2, w2, hrun, hown, hgr, hsm⟩ := run_append_at 26 HR.out (MT.out.later B0.out) (by simp only [List.length_take]; omega) B0.out.size
          refine stepN_ok (by rfl) (by rfl) (w1 := w2) (v := v2) (exec_append _ _ _ _ (by rfl) _ _ (by rfl) (by rfl) hrun) (fun h => by cases h) ⟨hgr.size, fun b hb hS => hgr.block b hb (fun e => hS (.inr (World.ownsRow.lt HR.out b e.symm).1))⟩ ?_
          replace B0 := Lib.hid (B0.out.grown hgr B0.out.size (fun j hj => (World.ownsRow.lt HR.out j hj).1))
          have OB := Lib.hid (HD.out.o.later B0.out)
          obtain ⟨o1, c1, rfl, _, _⟩ := hown.val
          have HW := Lib.hid hown
          clear hown hgr hsm hrun HR
          try simp only [Act.put, List.getElem_toArray, List.getElem_cons_zero, List.getElem_cons_succ, List.setIfInBounds_toArray, List.set_cons_zero, List.set_cons_succ]
          refine monoN_stay (i := 11) (v := ?_) rfl (by kernel_rfl) (by kernel_rfl) (by kernel_rfl) (fun _ _ _ h => h) (Or.inl ⟨by rfl, ?_⟩) ?_
          rotate_left 1
          · (intro wL hL; go_simp; try with_reducible rfl)
          try simp only [Act.put, List.getElem_toArray, List.getElem_cons_zero, List.getElem_cons_succ, List.setIfInBounds_toArray, List.set_cons_zero, List.set_cons_succ]
          refine monoN_stay (i := 12) (v := ?_) rfl (by kernel_rfl) (by kernel_rfl) (by kernel_rfl) (fun _ _ _ h => h) (Or.inl ⟨by rfl, ?_⟩) ?_
          rotate_left 1
          · (intro wL hL; go_simp; try with_reducible rfl)
          try simp only [Act.put, List.getElem_toArray, List.getElem_cons_zero, List.getElem_cons_succ, List.setIfInBounds_toArray, List.set_cons_zero, List.set_cons_succ]
          refine monoN_r1 (i := 13) (by kernel_rfl) ?_
          refine stepN_set (by rfl) (by rfl) g 0 (.slice o1 (l ++ m.take m.length).length c1) (by have lL := OB.out.cell; have fL := OB.out.free; have zL := OB.out.lt; go_simp; try rfl) (by rfl) (.inl rfl) ?_
          try simp only [Act.put, List.getElem_toArray, List.getElem_cons_zero, List.getElem_cons_succ, List.setIfInBounds_toArray, List.set_cons_zero, List.set_cons_succ]
          refine monoN_done (by kernel_rfl) ?_ _
          have l1 := OB.out.cell
          simp only [dmA, Dk.fr, Option.isSome_some] at l1
          have f1 := OB.out.free
          have z1 := OB.out.lt
          go_wp2_with fail
          go_ret
          refine ⟨.slice o1 (l ++ m.take m.length).length c1, rfl, ?_⟩
          have hp := HT.out.trans (HD.out.renewed dm_ne HW.out B0.out (ok_append HD.out.ok (fun x hx => HOK.out x (List.mem_of_mem_take hx))) 0)
          have e4 : dmA ⟨l ++ m, some (n - m.length), false⟩ (.slice o1 (l ++ m.take m.length).length c1) = ((dmA ⟨l, some n, false⟩ (.slice oa l.length cap)).setIfInBounds 0 (.slice o1 (l ++ m.take m.length).length c1)).setIfInBounds 1 (.int .i64 ((n : Int) - m.length)) := by simp [dmA, Dk.fr]; omega
          rw [e4]
          have hp2 := hp.set dm_ne 1 (.int .i64 ((n : Int) - m.length))
          simp only [List.take_length, List.length_append] at hp2 ⊢
          exact hp2
        · refine stepN_read (by rfl) (by rfl) (v := .slice oa l.length cap) (by have lL := OA.out.cell; have zL := OA.out.lt; go_simp; try rfl) ?_
          try simp only [Act.put, List.getElem_toArray, List.getElem_cons_zero, List.getElem_cons_succ, List.setIfInBounds_toArray, List.set_cons_zero, List.set_cons_succ]
          refine monoN_r1 (i := 1) (by kernel_rfl) ?_
          refine stepN_new (by rfl) (by rfl) (fun b => .slice (some ⟨b, 0, none⟩) 0 0) #[] 5 (by go_simp; try rfl) (fun b7 wn ge7 hb o7 => ?_)
          have HGE := Lib.hid (Nat.le_trans B0.out.size ge7)
          replace OA := Lib.hid (OA.out.later hb)
          replace B0 := Lib.hid (B0.out.trans (Below.mono hb B0.out.size))
          clear hb ge7
          have O7 := Lib.hid o7
          clear o7
          try simp only [Act.put, List.getElem_toArray, List.getElem_cons_zero, List.getElem_cons_succ, List.setIfInBounds_toArray, List.set_cons_zero, List.set_cons_succ]
          refine monoN_r1 (i := 6) (by kernel_rfl) ?_
          obtain ⟨v1, w1, hrun, hown, hgr, hsm⟩ := run_append_at 26 (own_none (base := (w).heap.size) O7.out HGE.out) ((HD.out.row.by HD.out.ok).later B0.out) (by simp only [List.length_nil]; omega) B0.out.size
          refine stepN_ok (by rfl) (by rfl) (w1 := w1) (v := v1) (exec_append _ _ _ _ (by rfl) _ _ (by rfl) (by rfl) hrun) (fun h => by cases h) ⟨hgr.size, fun b hb hS => hgr.block b hb (fun e => hS (.inr (by cases e; exact HGE.out)))⟩ ?_
          rw [List.nil_append] at hown
          replace B0 := Lib.hid (B0.out.grown hgr B0.out.size (fun j hj => by cases hj; exact HGE.out))
          have HR := Lib.hid hown
          clear hown hgr hsm hrun OA O7
          try simp only [Act.put, List.getElem_toArray, List.getElem_cons_zero, List.getElem_cons_succ, List.setIfInBounds_toArray, List.set_cons_zero, List.set_cons_succ]
          refine monoN_r1 (i := 10) (by kernel_rfl) ?_
          obtain ⟨v2, w2, hrun, hown, hgr, hsm⟩ := run_append_at 26 HR.out (MT.out.later B0.out) (by simp only [List.length_take]; omega) B0.out.size
          refine stepN_ok (by rfl) (by rfl) (w1 := w2) (v := v2) (exec_append _ _ _ _ (by rfl) _ _ (by rfl) (by rfl) hrun) (fun h => by cases h) ⟨hgr.size, fun b hb hS => hgr.block b hb (fun e => hS (.inr (World.ownsRow.lt HR.out b e.symm).1))⟩ ?_
          replace B0 := Lib.hid (B0.out.grown hgr B0.out.size (fun j hj => (World.ownsRow.lt HR.out j hj).1))
          have OB := Lib.hid (HD.out.o.later B0.out)
          obtain ⟨o1, c1, rfl, _, _⟩ := hown.val
          have HW := Lib.hid hown
          clear hown hgr hsm hrun HR
          try simp only [Act.put, List.getElem_toArray, List.getElem_cons_zero, List.getElem_cons_succ, List.setIfInBounds_toArray, List.set_cons_zero, List.set_cons_succ]
          refine monoN_stay (i := 11) (v := ?_) rfl (by kernel_rfl) (by kernel_rfl) (by kernel_rfl) (fun _ _ _ h => h) (Or.inl ⟨by rfl, ?_⟩) ?_
          rotate_left 1
          · (intro wL hL; go_simp; try with_reducible rfl)
          try simp only [Act.put, List.getElem_toArray, List.getElem_cons_zero, List.getElem_cons_succ, List.setIfInBounds_toArray, List.set_cons_zero, List.set_cons_succ]
          refine monoN_stay (i := 12) (v := ?_) rfl (by kernel_rfl) (by kernel_rfl) (by kernel_rfl) (fun _ _ _ h => h) (Or.inl ⟨by rfl, ?_⟩) ?_
          rotate_left 1
          · (intro wL hL; go_simp; try with_reducible rfl)
          try simp only [Act.put, List.getElem_toArray, List.getElem_cons_zero, List.getElem_cons_succ, List.setIfInBounds_toArray, List.set_cons_zero, List.set_cons_succ]
          refine monoN_r1 (i := 13) (by kernel_rfl) ?_
          refine stepN_set (by rfl) (by rfl) g 0 (.slice o1 (l ++ m.take m.length).length c1) (by have lL := OB.out.cell; have fL := OB.out.free; have zL := OB.out.lt; go_simp; try rfl) (by rfl) (.inl rfl) ?_
          try simp only [Act.put, List.getElem_toArray, List.getElem_cons_zero, List.getElem_cons_succ, List.setIfInBounds_toArray, List.set_cons_zero, List.set_cons_succ]
          refine monoN_done (by kernel_rfl) ?_ _
          have l1 := OB.out.cell
          simp only [dmA, Dk.fr, Option.isSome_some] at l1
          have f1 := OB.out.free
          have z1 := OB.out.lt
          go_wp2_with fail
          go_ret
          refine ⟨.slice o1 (l ++ m.take m.length).length c1, rfl, ?_⟩
          have hp := HT.out.trans (HD.out.renewed dm_ne HW.out B0.out (ok_append HD.out.ok (fun x hx => HOK.out x (List.mem_of_mem_take hx))) 0)
          have e4 : dmA ⟨l ++ m, some (n - m.length), false⟩ (.slice o1 (l ++ m.take m.length).length c1) = ((dmA ⟨l, some n, false⟩ (.slice oa l.length cap)).setIfInBounds 0 (.slice o1 (l ++ m.take m.length).length c1)).setIfInBounds 1 (.int .i64 ((n : Int) - m.length)) := by simp [dmA, Dk.fr]; omega
          rw [e4]
          have hp2 := hp.set dm_ne 1 (.int .i64 ((n : Int) - m.length))
          simp only [List.take_length, List.length_append] at hp2 ⊢
          exact hp2
      · have e1 : addD ⟨l, some n, false⟩ m = ⟨l ++ m.take n, none, true⟩ := by simp [addD, hlt]
        have e2 : addE ⟨l, some n, false⟩ m = 8 := by simp [addE, hlt]
        rw [e1, e2]
        clear e1 e2
        have g2 : decide ((n : Int) ≤ (m.length : Int)) = true := decide_eq_true (by omega)
        have HNE := Lib.hid (notIn_upto (n := n) HNI.out)
        have HT := Lib.hid (H.out.stay.set dm_ne 2 (.bool true))
        have HD := Lib.hid HT.out.bx
        have MT := Lib.hid (show ByW (w.setCell ⟨g, 2, none⟩ (.bool true)) (m.take n) (.slice (slA ob 0 cb) n cb) from byW_set (HM.out.upto _ (by omega)) HNE.out)
        have B0 := Lib.hid (Below.refl (w.setCell ⟨g, 2, none⟩ (.bool true)).heap.size (w.setCell ⟨g, 2, none⟩ (.bool true)))
        have OA : Hid (Own (w.setCell ⟨g, 2, none⟩ (.bool true)) g #[.slice oa l.length cap, .int .i64 (n : Int), .bool true] 28) := HT.out.bx.o
        go_enter Try.func19, Try.ntmps19
        go_upto_region 7 with fail
        clear l0 f0 z0
        refine monoN_start (T := fun j => j = g ∨ (w.setCell ⟨g, 2, none⟩ (.bool true)).heap.size ≤ j) (D := fun k => k == 6 || k == 10 || k == 13) (by kernel_rfl) (fun wd hbd => ?_)
        replace OA := Lib.hid (OA.out.later hbd)
        replace B0 := Lib.hid (B0.out.trans (Below.mono hbd B0.out.size))
        clear hbd
        refine monoN_stay (i := 0) (v := ?_) rfl (by kernel_rfl) (by kernel_rfl) (by kernel_rfl) (fun _ _ _ h => h) (Or.inl ⟨by rfl, ?_⟩) ?_
        rotate_left 1
        · (intro wL hL; go_simp; try with_reducible rfl)
        try simp only [Act.put, List.getElem_toArray, List.getElem_cons_zero, List.getElem_cons_succ, List.setIfInBounds_toArray, List.set_cons_zero, List.set_cons_succ]
        refine monoN_stay (i := 2) (v := ?_) rfl (by kernel_rfl) (by kernel_rfl) (by kernel_rfl) (fun _ _ _ h => h) (Or.inl ⟨by rfl, ?_⟩) ?_
        rotate_left 1
        · (intro wL hL; go_simp; try with_reducible rfl)
        try simp only [Act.put, List.getElem_toArray, List.getElem_cons_zero, List.getElem_cons_succ, List.setIfInBounds_toArray, List.set_cons_zero, List.set_cons_succ]
        refine monoN_stay (i := 3) (v := ?_) rfl (by kernel_rfl) (by kernel_rfl) (by kernel_rfl) (fun _ _ _ h => h) (Or.inl ⟨by rfl, ?_⟩) ?_
        rotate_left 1
        · (intro wL hL; go_simp; try with_reducible rfl)
        try simp only [Act.put, List.getElem_toArray, List.getElem_cons_zero, List.getElem_cons_succ, List.setIfInBounds_toArray, List.set_cons_zero, List.set_cons_succ]
        refine monoN_stay (i := 4) (v := ?_) rfl (by kernel_rfl) (by kernel_rfl) (by kernel_rfl) (fun _ _ _ h => h) (Or.inl ⟨by rfl, ?_⟩) ?_
        rotate_left 1
        · (intro wL hL; go_simp; try with_reducible rfl)
        try simp only [Act.put, List.getElem_toArray, List.getElem_cons_zero, List.getElem_cons_succ, List.setIfInBounds_toArray, List.set_cons_zero, List.set_cons_succ]
        refine monoN_stay (i := 7) (v := ?_) rfl (by kernel_rfl) (by kernel_rfl) (by kernel_rfl) (fun _ _ _ h => h) (Or.inl ⟨by rfl, ?_⟩) ?_
        rotate_left 1
        · (intro wL hL; go_simp; try with_reducible rfl)
        try simp only [Act.put, List.getElem_toArray, List.getElem_cons_zero, List.getElem_cons_succ, List.setIfInBounds_toArray, List.set_cons_zero, List.set_cons_succ]
        refine monoN_stay (i := 8) (v := ?_) rfl (by kernel_rfl) (by kernel_rfl) (by kernel_rfl) (fun _ _ _ h => h) (Or.inl ⟨by rfl, ?_⟩) ?_
        rotate_left 1
        · (intro wL hL; go_simp; try with_reducible rfl)
        try simp only [Act.put, List.getElem_toArray, List.getElem_cons_zero, List.getElem_cons_succ, List.setIfInBounds_toArray, List.set_cons_zero, List.set_cons_succ]
        refine monoN_stay (i := 9) (v := ?_) rfl (by kernel_rfl) (by kernel_rfl) (by kernel_rfl) (fun _ _ _ h => h) (Or.inl ⟨by rfl, ?_⟩) ?_
        rotate_left 1
        · (intro wL hL; have q1 : ((n : Int) : Int) ≤ cb := (by omega); have q2 : (0 : Int) ≤ (n : Int) := (by omega); go_simp; try with_reducible rfl)
        try simp only [Act.put, List.getElem_toArray, List.getElem_cons_zero, List.getElem_cons_succ, List.setIfInBounds_toArray, List.set_cons_zero, List.set_cons_succ]
        refine monoN_r2 (i := 1) (j := 5) (by kernel_rfl) ?_ ?_
        · refine stepN_new (by rfl) (by rfl) (fun b => .slice (some ⟨b, 0, none⟩) 0 0) #[] 5 (by go_simp; try rfl) (fun b7 wn ge7 hb o7 => ?_)
          have HGE := Lib.hid (Nat.le_trans B0.out.size ge7)
          replace OA := Lib.hid (OA.out.later hb)
          replace B0 := Lib.hid (B0.out.trans (Below.mono hb B0.out.size))
          clear hb ge7
          have O7 := Lib.hid o7
          clear o7
          try simp only [Act.put, List.getElem_toArray, List.getElem_cons_zero, List.getElem_cons_succ, List.setIfInBounds_toArray, List.set_cons_zero, List.set_cons_succ]
          refine monoN_r1 (i := 5) (by kernel_rfl) ?_
          refine stepN_read (by rfl) (by rfl) (v := .slice oa l.length cap) (by have lL := OA.out.cell; have zL := OA.out.lt; go_simp; try rfl) ?_
          try simp only [Act.put, List.getElem_toArray, List.getElem_cons_zero, List.getElem_cons_succ, List.setIfInBounds_toArray, List.set_cons_zero, List.set_cons_succ]
          refine monoN_r1 (i := 6) (by kernel_rfl) ?_
          obtain ⟨v1, w1, hrun, hown, hgr, hsm⟩ := run_append_at 26 (own_none (base := (w.setCell ⟨g, 2, none⟩ (.bool true)).heap.size) O7.out HGE.out) ((HD.out.row.by HD.out.ok).later B0.out) (by simp only [List.length_nil]; omega) B0.out.size
          refine stepN_ok (by rfl) (by rfl) (w1 := w1) (v := v1) (exec_append _ _ _ _ (by rfl) _ _ (by rfl) (by rfl) hrun) (fun h => by cases h) ⟨hgr.size, fun b hb hS => hgr.block b hb (fun e => hS (.inr (by cases e; exact HGE.out)))⟩ ?_
          rw [List.nil_append] at hown
          replace B0 := Lib.hid (B0.out.grown hgr B0.out.size (fun j hj => by cases hj; exact HGE.out))
          have HR := Lib.hid hown
          clear hown hgr hsm hrun OA O7
          try simp only [Act.put, List.getElem_toArray, List.getElem_cons_zero, List.getElem_cons_succ, List.setIfInBounds_toArray, List.set_cons_zero, List.set_cons_succ]
          refine monoN_r1 (i := 10) (by kernel_rfl) ?_
          obtain ⟨v2, w2, hrun, hown, hgr, hsm⟩ := run_append_at 26 HR.out (MT.out.later B0.out) (by simp only [List.length_take]; omega) B0.out.size
          refine stepN_ok (by rfl) (by rfl) (w1 := w2) (v := v2) (exec_append _ _ _ _ (by rfl) _ _ (by rfl) (by rfl) hrun) (fun h => by cases h) ⟨hgr.size, fun b hb hS => hgr.block b hb (fun e => hS (.inr (World.ownsRow.lt HR.out b e.symm).1))⟩ ?_
          replace B0 := Lib.hid (B0.out.grown hgr B0.out.size (fun j hj => (World.ownsRow.lt HR.out j hj).1))
          have OB := Lib.hid (HD.out.o.later B0.out)
          obtain ⟨o1, c1, rfl, _, _⟩ := hown.val
          have HW := Lib.hid hown
          clear hown hgr hsm hrun HR
          try simp only [Act.put, List.getElem_toArray, List.getElem_cons_zero, List.getElem_cons_succ, List.setIfInBounds_toArray, List.set_cons_zero, List.set_cons_succ]
          refine monoN_stay (i := 11) (v := ?_) rfl (by kernel_rfl) (by kernel_rfl) (by kernel_rfl) (fun _ _ _ h => h) (Or.inl ⟨by rfl, ?_⟩) ?_
          rotate_left 1
          · (intro wL hL; go_simp; try with_reducible rfl)
          try simp only [Act.put, List.getElem_toArray, List.getElem_cons_zero, List.getElem_cons_succ, List.setIfInBounds_toArray, List.set_cons_zero, List.set_cons_succ]
          refine monoN_stay (i := 12) (v := ?_) rfl (by kernel_rfl) (by kernel_rfl) (by kernel_rfl) (fun _ _ _ h => h) (Or.inl ⟨by rfl, ?_⟩) ?_
          rotate_left 1
          · (intro wL hL; go_simp; try with_reducible rfl)
          try simp only [Act.put, List.getElem_toArray, List.getElem_cons_zero, List.getElem_cons_succ, List.setIfInBounds_toArray, List.set_cons_zero, List.set_cons_succ]
          refine monoN_r1 (i := 13) (by kernel_rfl) ?_
          refine stepN_set (by rfl) (by rfl) g 0 (.slice o1 (l ++ m.take n).length c1) (by have lL := OB.out.cell; have fL := OB.out.free; have zL := OB.out.lt; go_simp; try rfl) (by rfl) (.inl rfl) ?_
          try simp only [Act.put, List.getElem_toArray, List.getElem_cons_zero, List.getElem_cons_succ, List.setIfInBounds_toArray, List.set_cons_zero, List.set_cons_succ]
          refine monoN_done (by kernel_rfl) ?_ _
          have l1 := OB.out.cell
          simp only [dmA, Dk.fr, Option.isSome_some] at l1
          have f1 := OB.out.free
          have z1 := OB.out.lt
          go_wp2_with fail
          go_ret
          refine ⟨.slice o1 (l ++ m.take n).length c1, rfl, ?_⟩
          have hp := HT.out.trans (HD.out.renewed dm_ne HW.out B0.out (ok_append HD.out.ok (fun x hx => HOK.out x (List.mem_of_mem_take hx))) 0)
          have e4 : dmA ⟨l ++ m.take n, none, true⟩ (.slice o1 (l ++ m.take n).length c1) = (((dmA ⟨l, some n, false⟩ (.slice oa l.length cap)).setIfInBounds 2 (.bool true)).setIfInBounds 0 (.slice o1 (l ++ m.take n).length c1)).setIfInBounds 1 (.int .i64 (-1)) := by simp [dmA, Dk.fr]
          rw [e4]
          have hp2 := hp.set dm_ne 1 (.int .i64 (-1))
          simp only [List.length_append, List.length_take, Nat.min_eq_left (Nat.le_of_not_lt hlt)] at hp2 ⊢
          exact hp2
        · refine stepN_read (by rfl) (by rfl) (v := .slice oa l.length cap) (by have lL := OA.out.cell; have zL := OA.out.lt; go_simp; try rfl) ?_
          try simp only [Act.put, List.getElem_toArray, List.getElem_cons_zero, List.getElem_cons_succ, List.setIfInBounds_toArray, List.set_cons_zero, List.set_cons_succ]
          refine monoN_r1 (i := 1) (by kernel_rfl) ?_
          refine stepN_new (by rfl) (by rfl) (fun b => .slice (some ⟨b, 0, none⟩) 0 0) #[] 5 (by go_simp; try rfl) (fun b7 wn ge7 hb o7 => ?_)
          have HGE := Lib.hid (Nat.le_trans B0.out.size ge7)
          replace OA := Lib.hid (OA.out.later hb)
          replace B0 := Lib.hid (B0.out.trans (Below.mono hb B0.out.size))
          clear hb ge7
          have O7 := Lib.hid o7
          clear o7
          try simp only [Act.put, List.getElem_toArray, List.getElem_cons_zero, List.getElem_cons_succ, List.setIfInBounds_toArray, List.set_cons_zero, List.set_cons_succ]
          refine monoN_r1 (i := 6) (by kernel_rfl) ?_
          obtain ⟨v1, w1, hrun, hown, hgr, hsm⟩ := run_append_at 26 (own_none (base := (w.setCell ⟨g, 2, none⟩ (.bool true)).heap.size) O7.out HGE.out) ((HD.out.row.by HD.out.ok).later B0.out) (by simp only [List.length_nil]; omega) B0.out.size
          refine stepN_ok (by rfl) (by rfl) (w1 := w1) (v := v1) (exec_append _ _ _ _ (by rfl) _ _ (by rfl) (by rfl) hrun) (fun h => by cases h) ⟨hgr.size, fun b hb hS => hgr.block b hb (fun e => hS (.inr (by cases e; exact HGE.out)))⟩ ?_
          rw [List.nil_append] at hown
          replace B0 := Lib.hid (B0.out.grown hgr B0.out.size (fun j hj => by cases hj; exact HGE.out))
          have HR := Lib.hid hown
          clear hown hgr hsm hrun OA O7
          try simp only [Act.put, List.getElem_toArray, List.getElem_cons_zero, List.getElem_cons_succ, List.setIfInBounds_toArray, List.set_cons_zero, List.set_cons_succ]
          refine monoN_r1 (i := 10) (by kernel_rfl) ?_
          obtain ⟨v2, w2, hrun, hown, hgr, hsm⟩ := run_append_at 26 HR.out (MT.out.later B0.out) (by simp only [List.length_take]; omega) B0.out.size
          refine stepN_ok (by rfl) (by rfl) (w1 := w2) (v := v2) (exec_append _ _ _ _ (by rfl) _ _ (by rfl) (by rfl) hrun) (fun h => by cases h) ⟨hgr.size, fun b hb hS => hgr.block b hb (fun e => hS (.inr (World.ownsRow.lt HR.out b e.symm).1))⟩ ?_
          replace B0 := Lib.hid (B0.out.grown hgr B0.out.size (fun j hj => (World.ownsRow.lt HR.out j hj).1))
          have OB := Lib.hid (HD.out.o.later B0.out)
          obtain ⟨o1, c1, rfl, _, _⟩ := hown.val
          have HW := Lib.hid hown
          clear hown hgr hsm hrun HR
          try simp only [Act.put, List.getElem_toArray, List.getElem_cons_zero, List.getElem_cons_succ, List.setIfInBounds_toArray, List.set_cons_zero, List.set_cons_succ]
          refine monoN_stay (i := 11) (v := ?_) rfl (by kernel_rfl) (by kernel_rfl) (by kernel_rfl) (fun _ _ _ h => h) (Or.inl ⟨by rfl, ?_⟩) ?_
          rotate_left 1
          · (intro wL hL; go_simp; try with_reducible rfl)
          try simp only [Act.put, List.getElem_toArray, List.getElem_cons_zero, List.getElem_cons_succ, List.setIfInBounds_toArray, List.set_cons_zero, List.set_cons_succ]
          refine monoN_stay (i := 12) (v := ?_) rfl (by kernel_rfl) (by kernel_rfl) (by kernel_rfl) (fun _ _ _ h => h) (Or.inl ⟨by rfl, ?_⟩) ?_
          rotate_left 1
          · (intro wL hL; go_simp; try with_reducible rfl)
          try simp only [Act.put, List.getElem_toArray, List.getElem_cons_zero, List.getElem_cons_succ, List.setIfInBounds_toArray, List.set_cons_zero, List.set_cons_succ]
          refine monoN_r1 (i := 13) (by kernel_rfl) ?_
          refine stepN_set (by rfl) (by rfl) g 0 (.slice o1 (l ++ m.take n).length c1) (by have lL := OB.out.cell; have fL := OB.out.free; have zL := OB.out.lt; go_simp; try rfl) (by rfl) (.inl rfl) ?_
          try simp only [Act.put, List.getElem_toArray, List.getElem_cons_zero, List.getElem_cons_succ, List.setIfInBounds_toArray, List.set_cons_zero, List.set_cons_succ]
          refine monoN_done (by kernel_rfl) ?_ _
          have l1 := OB.out.cell
          simp only [dmA, Dk.fr, Option.isSome_some] at l1
          have f1 := OB.out.free
          have z1 := OB.out.lt
          go_wp2_with fail
          go_ret
          refine ⟨.slice o1 (l ++ m.take n).length c1, rfl, ?_⟩
          have hp := HT.out.trans (HD.out.renewed dm_ne HW.out B0.out (ok_append HD.out.ok (fun x hx => HOK.out x (List.mem_of_mem_take hx))) 0)
          have e4 : dmA ⟨l ++ m.take n, none, true⟩ (.slice o1 (l ++ m.take n).length c1) = (((dmA ⟨l, some n, false⟩ (.slice oa l.length cap)).setIfInBounds 2 (.bool true)).setIfInBounds 0 (.slice o1 (l ++ m.take n).length c1)).setIfInBounds 1 (.int .i64 (-1)) := by simp [dmA, Dk.fr]
          rw [e4]
          have hp2 := hp.set dm_ne 1 (.int .i64 (-1))
          simp only [List.length_append, List.length_take, Nat.min_eq_left (Nat.le_of_not_lt hlt)] at hp2 ⊢
          exact hp2
  · rw [(addD_down (d := ⟨l, fu, true⟩) (m := m) rfl).1, (addD_down (d := ⟨l, fu, true⟩) (m := m) rfl).2]
    go_enter Try.func19, Try.ntmps19
    go_wp2
    go_ret
    exact ⟨_, rfl, H.out.stay⟩

end Go.Proofs.Yteofkbidahefeaa
