/- Filters in a world: that a tree lies there. No walk. -/
import Derived.Test.YtechmejmlelmmaaPr
namespace Go.Proofs.Ytechmejmlelmmaa
set_option linter.unusedVariables false
set_option linter.unusedSimpArgs false
set_option maxRecDepth 100000
open Go.RowKit

/-- A filter's cells (v: its Kids), as api.Pred and as Tree. -/
def pc (p : Pr) (v : Value) : List Value := [.int .i64 p.op, .string p.text, .int .i64 p.n, .complex .f64 p.x p.y, v]
def tc (p : Pr) (v : Value) : List Value := [.int .i64 p.op, .string p.text, .int .i64 p.n, .float .f64 p.x, .float .f64 p.y, v]

/-- Kids that read as v lie in blocks of S. sz: how many cells each has, c: which. -/
inductive Lies (sz : Nat) (c : Pr → Value → List Value) (S : Nat → Prop) (w : World) : Pr → Value → Prop where
  | mk (op : Int) (t : ByteArray) (n : Int) (x y : Nat) (kids : List Pr) (oa : Option Addr) (cap b o : Nat) (V : Nat → Value) (ht : t.size ≤ maxLen) (hl : kids.length ≤ cap) (hc : cap ≤ maxLen)
      (hn : 0 < kids.length → oa = some ⟨b, o, none⟩ ∧ S b)
      (hcell : ∀ i p, kids[i]? = some p → ∀ j u, (c p (V i))[j]? = some u → w.cell? ⟨b, o + i * sz + j, none⟩ = some u)
      (hrec : ∀ i p, kids[i]? = some p → Lies sz c S w p (V i)) : Lies sz c S w (.node op t n x y kids) (.slice oa kids.length cap)

theorem some_pos {l : List Pr} {i : Nat} {p : Pr} (h : l[i]? = some p) : i < l.length := (List.getElem?_eq_some_iff.1 h).1

theorem Lies.mono {sz : Nat} {c : Pr → Value → List Value} {S S' : Nat → Prop} {w w' : World} {p : Pr} {v : Value} (h : Lies sz c S w p v)
    (hw : ∀ b o, S b → w'.cell? ⟨b, o, none⟩ = w.cell? ⟨b, o, none⟩) (hS : ∀ b, S b → S' b) : Lies sz c S' w' p v := by
  induction h with
  | mk op t n x y kids oa cap b o V ht hl hc hn hcell hrec ih =>
    refine .mk op t n x y kids oa cap b o V ht hl hc (fun h => ⟨(hn h).1, hS _ (hn h).2⟩) (fun i p hp j u hu => ?_) fun i p hp => ih i p hp
    rw [hw _ _ (hn (by have := some_pos hp; omega)).2]
    exact hcell i p hp j u hu

/-- As Lies, in whatever old blocks there are. -/
abbrev LP (w : World) (p : Pr) (v : Value) : Prop := Lies 5 pc (fun b => b < w.heap.size) w p v
abbrev LT (w : World) (p : Pr) (v : Value) : Prop := Lies 6 tc (fun b => b < w.heap.size) w p v

theorem Lies.later {sz : Nat} {c : Pr → Value → List Value} {w w' : World} {p : Pr} {v : Value} {B : Nat} (h : Lies sz c (fun b => b < w.heap.size) w p v) (hb : Below B w w') (hB : w.heap.size ≤ B) : Lies sz c (fun b => b < w'.heap.size) w' p v :=
  h.mono (fun b o hS => hb.cell (p := ⟨b, o, none⟩) (Nat.lt_of_lt_of_le hS hB)) fun _ hS => Nat.lt_of_lt_of_le hS hb.size
theorem Lies.atDrew {sz : Nat} {c : Pr → Value → List Value} {w : World} {p : Pr} {v : Value} (h : Lies sz c (fun b => b < w.heap.size) w p v) : Lies sz c (fun b => b < w.drew.heap.size) w.drew p v := h.later (Below.refl _ _).drew (Nat.le_refl _)
theorem Lies.atAlloc {sz : Nat} {c : Pr → Value → List Value} {w : World} {p : Pr} {v : Value} (h : Lies sz c (fun b => b < w.heap.size) w p v) (ob : Obj) : Lies sz c (fun b => b < (w.alloc ob).heap.size) (w.alloc ob) p v :=
  h.later ((Below.refl _ _).alloc (Nat.le_refl _) _) (Nat.le_refl _)

theorem lies_slice {sz : Nat} {c : Pr → Value → List Value} {S : Nat → Prop} {w : World} {p : Pr} {v : Value} (h : Lies sz c S w p v) :
    ∃ (oa : Option Addr) (cap b o : Nat) (V : Nat → Value), v = .slice oa p.kids.length cap ∧ p.text.size ≤ maxLen ∧ p.kids.length ≤ cap ∧ cap ≤ maxLen ∧ (0 < p.kids.length → oa = some ⟨b, o, none⟩ ∧ S b) ∧
      (∀ i q, p.kids[i]? = some q → ∀ j u, (c q (V i))[j]? = some u → w.cell? ⟨b, o + i * sz + j, none⟩ = some u) ∧ (∀ i q, p.kids[i]? = some q → Lies sz c S w q (V i)) := by
  cases h with
  | mk op t n x y kids oa cap b o V ht hl hc hn hcell hrec => exact ⟨oa, cap, b, o, V, rfl, ht, hl, hc, hn, hcell, hrec⟩

theorem lies_nil {sz : Nat} {c : Pr → Value → List Value} {S : Nat → Prop} {w : World} {op : Int} {t : ByteArray} {n : Int} {x y : Nat} (ht : t.size ≤ maxLen) : Lies sz c S w (.node op t n x y []) (.slice none 0 0) :=
  .mk op t n x y [] none 0 0 0 (fun _ => .nilFunc) ht (Nat.le_refl _) (Nat.zero_le _) (fun h => absurd h (Nat.lt_irrefl _)) (fun i p h => by simp at h) (fun i p h => by simp at h)

theorem lies_one {sz : Nat} {c : Pr → Value → List Value} {S : Nat → Prop} {w : World} {p : Pr} {v : Value} (h : Lies sz c S w p v) : v.oneCell' = true := by
  obtain ⟨_, _, _, _, _, rfl, _⟩ := lies_slice h; rfl

theorem pc_one {q : Pr} {v : Value} (h : v.oneCell' = true) : ∀ u ∈ pc q v, u.oneCell' = true := by
  intro u hu
  simp only [pc, List.mem_cons, List.not_mem_nil, or_false] at hu
  rcases hu with rfl | rfl | rfl | rfl | rfl
  · rfl
  · rfl
  · rfl
  · rfl
  · exact h

/-- Cells of the i-th one of Kids, as api.Pred. -/
theorem pc_cells {w : World} {q : Pr} {v : Value} {b o : Nat} (h : ∀ j u, (pc q v)[j]? = some u → w.cell? ⟨b, o + j, none⟩ = some u) :
    w.cell? ⟨b, o, none⟩ = some (.int .i64 q.op) ∧ w.cell? ⟨b, o + 1, none⟩ = some (.string q.text) ∧ w.cell? ⟨b, o + 2, none⟩ = some (.int .i64 q.n) ∧ w.cell? ⟨b, o + 3, none⟩ = some (.complex .f64 q.x q.y) ∧ w.cell? ⟨b, o + 4, none⟩ = some v :=
  ⟨h 0 _ rfl, h 1 _ rfl, h 2 _ rfl, h 3 _ rfl, h 4 _ rfl⟩
theorem tc_cells {w : World} {q : Pr} {v : Value} {b o : Nat} (h : ∀ j u, (tc q v)[j]? = some u → w.cell? ⟨b, o + j, none⟩ = some u) :
    w.cell? ⟨b, o, none⟩ = some (.int .i64 q.op) ∧ w.cell? ⟨b, o + 1, none⟩ = some (.string q.text) ∧ w.cell? ⟨b, o + 2, none⟩ = some (.int .i64 q.n) ∧ w.cell? ⟨b, o + 3, none⟩ = some (.float .f64 q.x) ∧ w.cell? ⟨b, o + 4, none⟩ = some (.float .f64 q.y) ∧ w.cell? ⟨b, o + 5, none⟩ = some v :=
  ⟨h 0 _ rfl, h 1 _ rfl, h 2 _ rfl, h 3 _ rfl, h 4 _ rfl, h 5 _ rfl⟩

end Go.Proofs.Ytechmejmlelmmaa
