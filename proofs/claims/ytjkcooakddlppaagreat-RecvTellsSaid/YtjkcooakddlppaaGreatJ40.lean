/- Joined: LocFM, LocCud, LocCre, LocalA. -/
import Derived.Test.YtjkcooakddlppaaGreatJ38
import Derived.Test.YtjkcooakddlppaaGreatJ28
import Derived.Test.YtjkcooakddlppaaGreatJ34
import Derived.Test.YtjkcooakddlppaaGreatJ30
import Derived.Test.YtjkcooakddlppaaGreatJ20
import Derived.Test.YtjkcooakddlppaaGreatJ33
import Derived.Test.YtjkcooakddlppaaGreatJ03
import Derived.Test.YtjkcooakddlppaaGreatJ37
/- The code's Filter of layer 9: what it comes to, and what lies there while it goes through the items. No walk. -/
namespace Go.Proofs.YtjkcooakddlppaaGreat
set_option linter.unusedVariables false
set_option linter.unusedSimpArgs false
set_option maxRecDepth 100000
open Go.RowKit
/-! ### What is known, piece by piece -/
def pieceF (x : Itm) : List Fr := (plainB (withK ⟨zeroV, []⟩ x.id x.r x.c)).l
/-! ### What lies there -/
structure KL (w : World) (base : Nat) (o : List Fr) (U : Nat → Value) (Lv : Value) : Prop where
  row : w.ownsRow base 115 9 Lv o.length (frCs U 0 o)
  ids : ∀ i f, o[i]? = some f → OwnT w base f.ids (U i)
section
variable {w w' : World} {base : Nat} {o : List Fr} {U : Nat → Value} {Lv : Value}
theorem KL.nil (w : World) (base : Nat) (U : Nat → Value) : KL w base [] U (.slice none 0 0) := ⟨World.ownsRow_nil _ _ _ _, fun i f h => by simp at h⟩
theorem KL.later (h : KL w base o U Lv) (hb : Below w.heap.size w w') : KL w' base o U Lv := ⟨ownsRow_below h.row hb, fun i f hf => (h.ids i f hf).later hb⟩
theorem KL.kept {n size : Nat} {e : TypeId} {v : Value} {xs : List Value} {b0 : Nat} (h : KL w base o U Lv) (hv : w.ownsRow b0 e size v n xs) (h1 : 115 ≠ e) (h2 : 9 ≠ e) (hg : w.grownBy w' v.ownBlock) : KL w' base o U Lv :=
  ⟨h.row.kept hg (row_apart h.row hv h1), fun i f hf => World.ownsRow.kept (h.ids i f hf) hg (row_apart (h.ids i f hf) hv h2)⟩
theorem KL.setLow (h : KL w base o U Lv) {a : Addr} (ha : a.block < base) (u : Value) : KL (w.setCell a u) base o U Lv :=
  ⟨ownsRow_setCell_below h.row ha u, fun i f hf => ownsRow_setCell_below (h.ids i f hf) ha u⟩
theorem KL.fr (h : KL w base o U Lv) (hok : ∀ f ∈ o, ∀ s ∈ f.ids, s.size ≤ maxLen) : FrW w o Lv :=
  rowFr h.row fun i f hf => (h.ids i f hf).tx (hok f (List.mem_of_getElem? hf))
end
structure FlM (wb : World) (bk : Nat) (l : List Itm) (f : Pr) (k : Nat) (x : Itm) (I : Nat) (sv ov Lv : Value) (W : World) : Prop where
  gr : wb.grownBy W (some bk)
  kn : Own W bk (knA zeroV Lv) 31
  kl : ∃ U, KL W wb.heap.size ((l.take (k + 1)).flatMap pieceF) U Lv
  s : OwnI W wb.heap.size ((l.take k).filter fun x => hasT f x) sv
  o : OwnI W wb.heap.size ((l.take k).filter fun x => !hasT f x) ov
  ap : sv.ownBlock = none ∨ sv.ownBlock ≠ ov.ownBlock
  i : Own W I (iA x) 49
theorem gr_over {wb w w' : World} {bk : Nat} {r : Option Nat} (h : wb.grownBy w (some bk)) (g : w.grownBy w' r) (hr : ∀ k, r = some k → wb.heap.size ≤ k) : wb.grownBy w' (some bk) :=
  ⟨g.os.trans h.os, g.tape.trans h.tape, g.output.trans h.output, Nat.le_trans h.size g.size, fun b hb hne => (g.block b (Nat.lt_of_lt_of_le hb h.size) (fun e => by have := hr b e.symm; omega)).trans (h.block b hb hne)⟩
theorem below_gr {w w' : World} (hb : Below w.heap.size w w') : w.grownBy w' none := ⟨hb.os, hb.tape, hb.output, hb.size, fun b h _ => hb.block b h⟩
section
variable {wb wr w7 w9 W W' : World} {bk k I : Nat} {l : List Itm} {f : Pr} {x : Itm} {sv ov Lv v9 : Value}
theorem FlM.later (h : FlM wb bk l f k x I sv ov Lv W) (hb : Below W.heap.size W W') : FlM wb bk l f k x I sv ov Lv W' :=
  ⟨gr_over h.gr (below_gr hb) (by simp), h.kn.later hb, by obtain ⟨U, hk⟩ := h.kl; exact ⟨U, hk.later hb⟩, h.s.later hb, h.o.later hb, h.ap, h.i.later hb⟩
end
end Go.Proofs.YtjkcooakddlppaaGreat
/- The code's deeds of layer 9: what they come to. No walk. -/
namespace Go.Proofs.YtjkcooakddlppaaGreat
set_option linter.unusedVariables false
set_option linter.unusedSimpArgs false
set_option maxRecDepth 100000
open Go.RowKit
end Go.Proofs.YtjkcooakddlppaaGreat
/- The code's Create of layer 9. Walked. -/
namespace Go.Proofs.YtjkcooakddlppaaGreat
set_option linter.unusedVariables false
set_option linter.unusedSimpArgs false
set_option maxRecDepth 100000
open Go.RowKit
end Go.Proofs.YtjkcooakddlppaaGreat
/- The code's calls of layer 9 that a replica begins with: their contracts. No walk. -/
namespace Go.Proofs.YtjkcooakddlppaaGreat
set_option linter.unusedVariables false
set_option linter.unusedSimpArgs false
set_option maxRecDepth 100000
open Go.RowKit
theorem localMay_calls (s : St) (fv sv ov kv : Value) (w : World) (hS : StW w s fv sv ov kv) (hB : StB s) :
    Calls Tryz.prog 25 #[stV s fv sv ov kv] w fun e w' => e = .returned (.bool (mayS s)) ∧ Below w.heap.size w w' :=
  codeMayS_calls s fv sv ov kv w hS (Nat.le_trans hB.ls (by decide)) (Nat.le_trans hB.lo (by decide)) (Nat.le_trans hB.ki (by decide))
end Go.Proofs.YtjkcooakddlppaaGreat
