/- The document's disk: New, Light, Up, Cut. Walked. -/
import Derived.Test.YteofkbidahefeaaDskC
namespace Go.Proofs.Yteofkbidahefeaa
set_option linter.unusedVariables false
set_option linter.unusedSimpArgs false
set_option maxRecDepth 100000
open Go.RowKit

set_option maxHeartbeats 1000000 in
theorem dmNew_calls (w : World) :
    Calls Try.prog 7 #[] w fun e w' => e = .returned (.agg #[.slice none 0 0, .int .i64 (-1), .bool false]) ∧ Below w.heap.size w w' := by
  go_enter Try.func7, Try.ntmps7
  go_wp2
  exact bodyPost_ret (v := .agg #[.slice none 0 0, .int .i64 (-1), .bool false]) (by simp [results, Try.results7, go_sem]) rfl ⟨rfl, (Below.refl _ _).alloc (Nat.le_refl _) _⟩

set_option maxHeartbeats 1000000 in
theorem dmLight_calls (d : Dk) (n : Int) (base g : Nat) (v : Value) (w : World) (h : Bx w base g (dmA d v) 28 d.l v) :
    Calls Try.prog 12 #[.pointer (some ⟨g, 0, none⟩), .int .i64 n] w fun e w' => e = .returned (.int .i64 (fuseE d n)) ∧ BxT base g v w w' (dmA (fuseD d n) v) 28 (fuseD d n).l v := by
  have l0 := h.o.cell
  unfold dmA at l0
  have f0 := h.o.free
  have z0 := h.o.lt
  have H := Lib.hid h
  clear h
  obtain ⟨l, fu, dn⟩ := d
  cases dn
  · by_cases hn : n < 0
    · have e : fuseE ⟨l, fu, false⟩ n = 1 := by simp [fuseE, hn]
      have e2 : fuseD ⟨l, fu, false⟩ n = ⟨l, fu, false⟩ := by simp [fuseD, hn]
      rw [e, e2]
      clear e e2
      go_enter Try.func12, Try.ntmps12
      go_wp2
      go_ret
      exact ⟨rfl, H.out.stay⟩
    · have e : fuseE ⟨l, fu, false⟩ n = 0 := by simp [fuseE, hn]
      have e2 : fuseD ⟨l, fu, false⟩ n = ⟨l, some n.toNat, false⟩ := by simp [fuseD, hn]
      have e3 : Hid (dmA ⟨l, some n.toNat, false⟩ v = (dmA ⟨l, fu, false⟩ v).setIfInBounds 1 (.int .i64 n)) := by
        show dmA ⟨l, some n.toNat, false⟩ v = _
        simp [dmA, Dk.fr]; omega
      rw [e, e2]
      clear e e2
      go_enter Try.func12, Try.ntmps12
      go_wp2
      go_ret
      exact ⟨rfl, by rw [e3.out]; exact H.out.stay.set dm_ne _ _⟩
  · have e : fuseE ⟨l, fu, true⟩ n = 8 := by simp [fuseE]
    have e2 : fuseD ⟨l, fu, true⟩ n = ⟨l, fu, true⟩ := by simp [fuseD]
    rw [e, e2]
    clear e e2
    go_enter Try.func12, Try.ntmps12
    go_wp2
    go_ret
    exact ⟨rfl, H.out.stay⟩

set_option maxHeartbeats 1000000 in
theorem dmUp_calls (d : Dk) (base g : Nat) (v : Value) (w : World) (h : Bx w base g (dmA d v) 28 d.l v) :
    Calls Try.prog 14 #[.pointer (some ⟨g, 0, none⟩)] w fun e w' => e = .returned (.tuple #[]) ∧ BxT base g v w w' (dmA (upD d) v) 28 (upD d).l v := by
  have l0 := h.o.cell
  unfold dmA at l0
  have f0 := h.o.free
  have z0 := h.o.lt
  have H := Lib.hid h
  clear h
  have e3 : Hid (dmA (upD d) v = ((dmA d v).setIfInBounds 1 (.int .i64 (-1))).setIfInBounds 2 (.bool false)) := by
    show dmA (upD d) v = _
    simp [dmA, Dk.fr, upD]
  go_enter Try.func14, Try.ntmps14
  go_wp2
  refine bodyPost_end (v := .tuple #[]) (by simp [results, Try.f14, go_sem]) rfl ?_
  exact ⟨rfl, by rw [e3.out]; exact (H.out.stay.set dm_ne _ _).set dm_ne _ _⟩

attribute [local go_sem ↓] run_slice_hI
set_option maxHeartbeats 2000000 in
theorem dmCut_calls (d : Dk) (n : Int) (base g : Nat) (v : Value) (w : World) (h : Bx w base g (dmA d v) 28 d.l v) (hn' : d.l.length ≤ 140737488355328) :
    Calls Try.prog 16 #[.pointer (some ⟨g, 0, none⟩), .int .i64 n] w fun e w' => DkP base g v w (dmA (cutD d n)) 28 (cutD d n).l (.int .i64 (cutE d n)) e w' := by
  have l0 := h.o.cell
  unfold dmA at l0
  have f0 := h.o.free
  have z0 := h.o.lt
  have H := Lib.hid h
  clear h
  obtain ⟨l, fu, dn⟩ := d
  obtain ⟨oa, cap, rfl, hc, hm⟩ := H.out.row.val
  dsimp only at l0 H hc hm hn' ⊢
  cases dn
  · by_cases hn : n < 0
    · have e : cutE ⟨l, fu, false⟩ n = 1 := by simp [cutE, hn]
      have e2 : cutD ⟨l, fu, false⟩ n = ⟨l, fu, false⟩ := by simp [cutD, hn]
      rw [e, e2]
      clear e e2
      go_enter Try.func16, Try.ntmps16
      go_wp2
      go_ret
      exact ⟨_, rfl, H.out.stay⟩
    · by_cases hg : (l.length : Int) < n
      · have e : cutE ⟨l, fu, false⟩ n = 1 := by simp [cutE, hg]
        have e2 : cutD ⟨l, fu, false⟩ n = ⟨l, fu, false⟩ := by simp [cutD, hg]
        rw [e, e2]
        clear e e2
        go_enter Try.func16, Try.ntmps16
        go_wp2
        go_ret
        exact ⟨_, rfl, H.out.stay⟩
      · have e : cutE ⟨l, fu, false⟩ n = 0 := by simp [cutE, hg, hn]
        have e2 : cutD ⟨l, fu, false⟩ n = ⟨l.take n.toNat, fu, false⟩ := by simp [cutD, hg, hn]
        rw [e, e2]
        clear e e2
        have hk : n.toNat ≤ l.length := by omega
        have HP := Lib.hid (fun ty => run_append_at ty (w := w.alloc (.cells #[] 5)) (base := w.heap.size) (own_new [] (Nat.le_refl _) (by decide)) (((H.out.row.by H.out.ok).upto n.toNat hk).later ((Below.refl _ _).alloc (Nat.le_refl _) _)) (by simp only [List.length_take, List.length_nil]; omega) (by simp))
        have e3 : Hid (∀ u, dmA ⟨l.take n.toNat, fu, false⟩ u = (dmA ⟨l, fu, false⟩ (.slice oa l.length cap)).setIfInBounds 0 u) := by
          show ∀ u, dmA ⟨l.take n.toNat, fu, false⟩ u = _
          intro u
          simp [dmA, Dk.fr]
        have h0 : 0 ≤ n := by omega
        have h2 : n ≤ cap := by omega
        have HK := Lib.hid hk
        clear hk
        go_enter Try.func16, Try.ntmps16
        go_wp2_with (first | (at_builtin; obtain ⟨v1, w1, hrun, hown, hgr, hsm⟩ := HP.out _; refine Lib.wpList_append_run _ rfl _ _ _ _ rfl _ _ rfl rfl _ _ hrun ?_; have hb := below_pushB (own_new (w := w) [] (Nat.le_refl _) (by decide)) ((Below.refl _ _).alloc (Nat.le_refl _) _) (Nat.le_refl _) hgr (by simp); have BW := Lib.hid hb; have hO := H.out.o.later hb; have l1 := hO.cell; unfold dmA at l1; have f1 := hO.free; have z1 := hO.lt; rw [List.nil_append] at hown; obtain ⟨o1, c1, rfl, _, _⟩ := hown.val; have HW := Lib.hid hown; clear hO hown hgr hsm hrun HP hb) | fail)
        go_ret
        refine ⟨.slice o1 (l.take n.toNat).length c1, rfl, ?_⟩
        rw [e3.out]
        have hp := H.out.renewed dm_ne HW.out BW.out (fun x hx => H.out.ok x (List.mem_of_mem_take hx)) 0
        simp only [List.length_take, Nat.min_eq_left HK.out] at hp ⊢
        exact hp
  · have e : cutE ⟨l, fu, true⟩ n = 8 := by simp [cutE]
    have e2 : cutD ⟨l, fu, true⟩ n = ⟨l, fu, true⟩ := by simp [cutD]
    rw [e, e2]
    clear e e2
    go_enter Try.func16, Try.ntmps16
    go_wp2
    go_ret
    exact ⟨_, rfl, H.out.stay⟩

end Go.Proofs.Yteofkbidahefeaa
