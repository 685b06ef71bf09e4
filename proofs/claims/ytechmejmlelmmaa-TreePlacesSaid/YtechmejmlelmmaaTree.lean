/- An argument that is a Tree: opened to its parts. -/
import Derived.Test.YtechmejmlelmmaaLies
import Derived.Test.YtechmejmlelmmaaOpenA
import Derived.Test.YtechmejmlelmmaaOpenS
import Derived.Deep.Slices
namespace Go.Proofs.Ytechmejmlelmmaa
set_option linter.unusedVariables false
set_option linter.unusedSimpArgs false
set_option maxRecDepth 100000
open Go.ChangeShapes Go.WideShapes Go.ChangeAt Go.RowKit Go.Deep

section
variable {H : Type} {enc : TypeId × Value → H} {w : World} {base : Nat} {spare : Nat → Bool} {held : Bool}

set_option maxRecDepth 100000 in
theorem trod_kids (fuel : Nat) (ih : ∀ n, n < fuel → ∀ (cs : List Value) (x : DataW H × List MemPlace), DataW.trod enc Try.prog w base spare held n 42 cs = some x → ∃ p v, cs = tc p v ∧ Lies 6 tc (fun b => b < w.heap.size) w p v)
    {cs : List Value} {x : DataW H × List MemPlace} (h : DataW.trod enc Try.prog w base spare held fuel 22 cs = some x) :
    ∃ (kids : List Pr) (v : Value), cs = [v] ∧ ∀ op (t : ByteArray) n y z, t.size ≤ maxLen → Lies 6 tc (fun b => b < w.heap.size) w (.node op t n y z kids) v := by
  rcases DataW.trod_slice Try.underlying22 h with ⟨rfl, _⟩ | ⟨a, len, cap, elems, rest, n, hf, rfl, _, hb, hl, hm, hlen, hel, _, _⟩
  · exact ⟨[], _, rfl, fun op t n y z ht => .mk op t n y z [] none 0 0 0 (fun _ => .nilFunc) ht (Nat.le_refl _) (Nat.zero_le _) (fun h => absurd h (Nat.lt_irrefl _)) (fun i p h => by simp at h) (fun i p h => by simp at h)⟩
  · have hC : Try.prog.cellsOf 42 = 6 := by kernel_rfl
    rw [hC] at hel
    have key : ∀ i, i < len → ∃ p v, (∀ j u, (tc p v)[j]? = some u → w.cell? (a.add (i * 6 + j)) = some u) ∧ Lies 6 tc (fun b => b < w.heap.size) w p v := by
      intro i hi
      have h1 := hel i hi
      rw [List.getElem?_eq_getElem (by omega)] at h1
      obtain ⟨cs', h2, h3⟩ := Option.bind_eq_some_iff.1 h1
      obtain ⟨_, hcl, hat⟩ := World.cells?_some h2
      obtain ⟨p, v, rfl, hL⟩ := ih n (by omega) cs' _ h3
      refine ⟨p, v, fun j u hu => ?_, hL⟩
      have hj : j < 6 := by
        have := (List.getElem?_eq_some_iff.1 hu).1; simpa [tc] using this
      rw [← Go.Deep.add_add, hat j hj, hu]
    classical
    let P : Nat → Pr := fun i => if h : i < len then (key i h).choose else .node 0 ⟨#[]⟩ 0 0 0 []
    let V : Nat → Value := fun i => if h : i < len then (key i h).choose_spec.choose else .nilFunc
    have hPV : ∀ i, i < len → (∀ j u, (tc (P i) (V i))[j]? = some u → w.cell? (a.add (i * 6 + j)) = some u) ∧ Lies 6 tc (fun b => b < w.heap.size) w (P i) (V i) := by
      intro i hi
      have := (key i hi).choose_spec.choose_spec
      simp only [P, V, dif_pos hi]
      exact this
    have hk : ∀ (i : Nat) (q : Pr), ((List.range len).map P)[i]? = some q → i < len ∧ q = P i := by
      intro i q hq
      rw [List.getElem?_map] at hq
      cases h : (List.range len)[i]? with
      | none => rw [h] at hq; cases hq
      | some k =>
        rw [h] at hq
        obtain ⟨h1, h2⟩ := List.getElem?_eq_some_iff.1 h
        simp at h1 h2 hq
        subst h2
        exact ⟨h1, hq.symm⟩
    have hlk : ((List.range len).map P).length = len := by simp
    have hs : 0 < len → a.spot = none ∧ a.block < w.heap.size := by
      intro h0
      have h1 := (hPV 0 h0).1 0 _ rfl
      have e : a.add (0 * 6 + 0) = a := by simp [Addr.add]
      rw [e] at h1
      exact ⟨World.cell?_spot h1, World.block_lt_of_cell? w _ h1⟩
    refine ⟨(List.range len).map P, _, rfl, fun op t n y z ht => ?_⟩
    have := Lies.mk (sz := 6) (c := tc) (S := fun b => b < w.heap.size) (w := w) op t n y z ((List.range len).map P) (some a) cap a.block a.off V ht (by rw [hlk]; exact hl) hm
      (fun h => by
        rw [hlk] at h
        refine ⟨?_, (hs h).2⟩
        have h1 := (hs h).1
        obtain ⟨b, o, s⟩ := a
        simp only at h1; subst h1; rfl)
      (fun i p hp j u hu => by
        obtain ⟨hi, rfl⟩ := hk i p hp
        have h1 := (hPV i hi).1 j u hu
        rw [addr_at (hs (by omega)).1] at h1
        rw [Nat.add_assoc]; exact h1)
      (fun i p hp => by
        obtain ⟨hi, rfl⟩ := hk i p hp
        exact (hPV i hi).2)
    rw [hlk] at this
    exact this

set_option maxRecDepth 100000 in
theorem trod_tree (fuel : Nat) : ∀ (cs : List Value) (x : DataW H × List MemPlace), DataW.trod enc Try.prog w base spare held fuel 42 cs = some x → ∃ p v, cs = tc p v ∧ Lies 6 tc (fun b => b < w.heap.size) w p v := by
  induction fuel using Nat.strongRecOn with
  | ind fuel ih =>
    intro cs x h
    obtain ⟨xs, n, hn, hx, hl, hxl, hf⟩ := DataW.trod_struct Try.underlying42 h
    have hl' : cs.length = 6 := hl.trans (by kernel_rfl)
    have F := fun i f hi => field_at (P := Try.prog) (by kernel_rfl) (by rw [hl']; rfl) hxl hf i f hi
    match cs, hl' with
    | [c0, c1, c2, c3, c4, c5], _ =>
      obtain ⟨_, _, e0, t0⟩ := F 0 _ rfl
      obtain ⟨_, _, e1, t1⟩ := F 1 _ rfl
      obtain ⟨_, _, e2, t2⟩ := F 2 _ rfl
      obtain ⟨_, _, e3, t3⟩ := F 3 _ rfl
      obtain ⟨_, _, e4, t4⟩ := F 4 _ rfl
      obtain ⟨_, _, e5, t5⟩ := F 5 _ rfl
      obtain ⟨s0, k0, _, z0⟩ := DataW.trod_int Try.underlying3 t0
      obtain ⟨s1, k1, _, z1⟩ := DataW.trod_string Try.underlying9 t1
      obtain ⟨s2, k2, _, z2⟩ := DataW.trod_int Try.underlying3 t2
      obtain ⟨s3, k3⟩ := trod_float Try.underlying40 t3
      obtain ⟨s4, k4⟩ := trod_float Try.underlying40 t4
      obtain ⟨kids, v, k5, hL⟩ := trod_kids n (fun n' hn' => ih n' (by omega)) t5
      simp only [List.cons.injEq, and_true] at k0 k1 k2 k3 k4 k5
      simp at e0 e1 e2 e3 e4 e5
      subst e0 e1 e2 e3 e4 e5 k0 k1 k2 k3 k4 k5
      exact ⟨.node s0 s1 s2 s3 s4 kids, _, rfl, hL _ _ _ _ _ z1⟩

set_option maxRecDepth 100000 in
/-- An argument that is a Tree. -/
theorem open_tree {r : Reach} {b0 : Nat} {v : Value} {d : DataW H} {p : List MemPlace} (hv : Value.okWide Try.prog w r b0 42 v) (h : DataW.Trod enc Try.prog w base spare held 42 v d p) :
    ∃ (q : Pr) (k : Value), v = .agg #[.int .i64 q.op, .string q.text, .int .i64 q.n, .float .f64 q.x, .float .f64 q.y, k] ∧ LT w q k := by
  obtain ⟨l, rfl, hsz⟩ := okWide_struct Try.underlying42 hv
  obtain ⟨f, hf⟩ := h
  obtain ⟨q, k, e, hL⟩ := trod_tree f _ _ hf
  refine ⟨q, k, ?_, hL⟩
  obtain ⟨l⟩ := l
  have : l = _ := e
  rw [this]; rfl
end

end Go.Proofs.Ytechmejmlelmmaa
