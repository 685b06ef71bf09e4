/- The code's disk. Walked. -/
import Derived.Test.YteofkbidahefeaaDskW
import Derived.Test.YteofkbidahefeaaByCl
import Derived.Test.YteofkbidahefeaaErrH
namespace Go.Proofs.Yteofkbidahefeaa
set_option linter.unusedVariables false
set_option linter.unusedSimpArgs false
set_option maxRecDepth 100000
open Go.RowKit

abbrev dkT : TypeId := 47
theorem dk_ne : 5 ≠ 47 := by decide
theorem dm_ne : 5 ≠ 28 := by decide

set_option maxHeartbeats 1000000 in
theorem dkNew_calls (w : World) :
    Calls Try.prog 6 #[] w fun e w' => e = .returned (.pointer (some ⟨w.heap.size, 0, none⟩)) ∧ Below w.heap.size w w' ∧ Bx w' w.heap.size w.heap.size (dkA newDk (.slice none 0 0)) 47 [] (.slice none 0 0) := by
  go_enter Try.func6, Try.ntmps6
  go_wp2
  go_ret
  exact ⟨rfl, (Below.refl _ _).alloc (Nat.le_refl _) _, Own.new w _ _, Nat.le_refl _, OwnB.nil _ _, by simp⟩

set_option maxHeartbeats 1000000 in
theorem dkDown_calls (d : Dk) (base g : Nat) (v : Value) (w : World) (h : Bx w base g (dkA d v) 47 d.l v) :
    Calls Try.prog 20 #[.pointer (some ⟨g, 0, none⟩)] w fun e w' => e = .returned (.bool d.dn) ∧ w = w' := by
  have l0 := h.o.cell
  unfold dkA at l0
  have z0 := h.o.lt
  clear h
  go_enter Try.func20, Try.ntmps20
  go_wp2
  go_ret
  exact ⟨rfl, rfl⟩

set_option maxHeartbeats 1000000 in
theorem dkFuse_calls (d : Dk) (n : Int) (base g : Nat) (v : Value) (w : World) (h : Bx w base g (dkA d v) 47 d.l v) :
    Calls Try.prog 11 #[.pointer (some ⟨g, 0, none⟩), .int .i64 n] w fun e w' => e = .returned (errV (fuseE d n)) ∧ BxT base g v w w' (dkA (fuseD d n) v) 47 (fuseD d n).l v := by
  have l0 := h.o.cell
  unfold dkA at l0
  have f0 := h.o.free
  have z0 := h.o.lt
  have H := Lib.hid h
  clear h
  obtain ⟨l, fu, dn⟩ := d
  cases dn
  · by_cases hn : n < 0
    · have e : fuseE ⟨l, fu, false⟩ n = 1 := by simp [fuseE, hn]
      have e2 : fuseD ⟨l, fu, false⟩ n = ⟨l, fu, false⟩ := by simp [fuseD, hn]
      rw [e, e2, show errV 1 = .iface 44 (.int .i64 1) from rfl]
      clear e e2
      go_enter Try.func11, Try.ntmps11
      go_wp2
      go_ret
      exact ⟨rfl, H.out.stay⟩
    · have e : fuseE ⟨l, fu, false⟩ n = 0 := by simp [fuseE, hn]
      have e2 : fuseD ⟨l, fu, false⟩ n = ⟨l, some n.toNat, false⟩ := by simp [fuseD, hn]
      have e3 : Hid (dkA ⟨l, some n.toNat, false⟩ v = ((dkA ⟨l, fu, false⟩ v).setIfInBounds 1 (.int .i64 n)).setIfInBounds 2 (.bool true)) := by
        show dkA ⟨l, some n.toNat, false⟩ v = _
        simp [dkA, Dk.fz]; omega
      rw [e, e2, show errV 0 = .nilIface from rfl]
      clear e e2
      go_enter Try.func11, Try.ntmps11
      go_wp2
      go_ret
      exact ⟨rfl, by rw [e3.out]; exact (H.out.stay.set dk_ne _ _).set dk_ne _ _⟩
  · have e : fuseE ⟨l, fu, true⟩ n = 8 := by simp [fuseE]
    have e2 : fuseD ⟨l, fu, true⟩ n = ⟨l, fu, true⟩ := by simp [fuseD]
    rw [e, e2, show errV 8 = .iface 44 (.int .i64 8) from rfl]
    clear e e2
    go_enter Try.func11, Try.ntmps11
    go_wp2
    go_ret
    exact ⟨rfl, H.out.stay⟩

set_option maxHeartbeats 1000000 in
theorem dkUp_calls (d : Dk) (base g : Nat) (v : Value) (w : World) (h : Bx w base g (dkA d v) 47 d.l v) :
    Calls Try.prog 13 #[.pointer (some ⟨g, 0, none⟩)] w fun e w' => e = .returned (.tuple #[]) ∧ BxT base g v w w' (dkA (upD d) v) 47 (upD d).l v := by
  have l0 := h.o.cell
  unfold dkA at l0
  have f0 := h.o.free
  have z0 := h.o.lt
  have H := Lib.hid h
  clear h
  have e3 : Hid (dkA (upD d) v = (((dkA d v).setIfInBounds 1 (.int .i64 0)).setIfInBounds 2 (.bool false)).setIfInBounds 3 (.bool false)) := by
    show dkA (upD d) v = _
    simp [dkA, Dk.fz, upD]
  go_enter Try.func13, Try.ntmps13
  go_wp2
  refine bodyPost_end (v := .tuple #[]) (by simp [results, Try.f13, go_sem]) rfl ?_
  exact ⟨rfl, by rw [e3.out]; exact ((H.out.stay.set dk_ne _ _).set dk_ne _ _).set dk_ne _ _⟩

set_option maxHeartbeats 1000000 in
theorem dkBytes_calls (d : Dk) (base g : Nat) (v : Value) (w : World) (h : Bx w base g (dkA d v) 47 d.l v) (hn : d.l.length ≤ 140737488355328) :
    Calls Try.prog 17 #[.pointer (some ⟨g, 0, none⟩)] w fun e w' => ∃ u, e = .returned u ∧ OwnB w' w.heap.size d.l u ∧ Below w.heap.size w w' := by
  have l0 := h.o.cell
  unfold dkA at l0
  have z0 := h.o.lt
  have C := Lib.hid (clone_calls d.l v w (h.row.by h.ok) hn)
  obtain ⟨oa, cap, rfl, _, _⟩ := h.row.val
  clear h
  go_enter Try.func17, Try.ntmps17
  go_wp2_with (first | (go_at_call 21; (with_reducible refine C.out.mono ?_); rintro e w1 ⟨u, rfl, hu, hb⟩) | fail)
  go_ret
  exact ⟨_, rfl, hu, hb⟩

/-- What a call tells, and makes of a disk. -/
def DkP (base g : Nat) (v : Value) (w : World) (C : Value → Array Value) (ty : TypeId) (l : List Nat) (r : Value) (e : Ending) (w' : World) : Prop := ∃ v', e = .returned r ∧ BxT base g v w w' (C v') ty l v'
attribute [local go_sem ↓] run_slice_hI
set_option maxHeartbeats 1000000 in
theorem dkCut_calls (d : Dk) (n : Int) (base g : Nat) (v : Value) (w : World) (h : Bx w base g (dkA d v) 47 d.l v) :
    Calls Try.prog 15 #[.pointer (some ⟨g, 0, none⟩), .int .i64 n] w fun e w' => DkP base g v w (dkA (cutD d n)) 47 (cutD d n).l (errV (cutE d n)) e w' := by
  have l0 := h.o.cell
  unfold dkA at l0
  have f0 := h.o.free
  have z0 := h.o.lt
  have H := Lib.hid h
  clear h
  obtain ⟨l, fu, dn⟩ := d
  obtain ⟨oa, cap, rfl, hc, hm⟩ := H.out.row.val
  dsimp only at l0 H hc hm ⊢
  cases dn
  · by_cases hn : n < 0
    · have e : cutE ⟨l, fu, false⟩ n = 1 := by simp [cutE, hn]
      have e2 : cutD ⟨l, fu, false⟩ n = ⟨l, fu, false⟩ := by simp [cutD, hn]
      rw [e, e2, show errV 1 = .iface 44 (.int .i64 1) from rfl]
      clear e e2
      go_enter Try.func15, Try.ntmps15
      go_wp2
      go_ret
      exact ⟨_, rfl, H.out.stay⟩
    · by_cases hg : (l.length : Int) < n
      · have e : cutE ⟨l, fu, false⟩ n = 1 := by simp [cutE, hg]
        have e2 : cutD ⟨l, fu, false⟩ n = ⟨l, fu, false⟩ := by simp [cutD, hg]
        rw [e, e2, show errV 1 = .iface 44 (.int .i64 1) from rfl]
        clear e e2
        go_enter Try.func15, Try.ntmps15
        go_wp2
        go_ret
        exact ⟨_, rfl, H.out.stay⟩
      · have e : cutE ⟨l, fu, false⟩ n = 0 := by simp [cutE, hg, hn]
        have e2 : cutD ⟨l, fu, false⟩ n = ⟨l.take n.toNat, fu, false⟩ := by simp [cutD, hg, hn]
        rw [e, e2, show errV 0 = .nilIface from rfl]
        clear e e2
        have hu := H.out.row.upto n.toNat (by omega)
        have HU := Lib.hid hu
        clear hu
        have e3 : Hid (∀ u, dkA ⟨l.take n.toNat, fu, false⟩ u = (dkA ⟨l, fu, false⟩ (.slice oa l.length cap)).setIfInBounds 0 u) := by
          show ∀ u, dkA ⟨l.take n.toNat, fu, false⟩ u = _
          intro u
          simp [dkA, Dk.fz]
        have h0 : 0 ≤ n := by omega
        have h2 : n ≤ cap := by omega
        go_enter Try.func15, Try.ntmps15
        go_wp2
        go_ret
        refine ⟨.slice (slA oa 0 cap) n.toNat cap, rfl, ?_⟩
        rw [e3.out]
        exact BxT.put H.out.o H.out.ge HU.out.1 (fun x hx => H.out.ok x (List.mem_of_mem_take hx)) dk_ne (fun k hk => .inl (by rw [← HU.out.2]; exact hk)) (Below.refl _ _) (But.refl _) 0
  · have e : cutE ⟨l, fu, true⟩ n = 8 := by simp [cutE]
    have e2 : cutD ⟨l, fu, true⟩ n = ⟨l, fu, true⟩ := by simp [cutD]
    rw [e, e2, show errV 8 = .iface 44 (.int .i64 8) from rfl]
    clear e e2
    go_enter Try.func15, Try.ntmps15
    go_wp2
    go_ret
    exact ⟨_, rfl, H.out.stay⟩

end Go.Proofs.Yteofkbidahefeaa
