/- merge: what stands in memory. No walk. -/
import Derived.Test.YtgfepbcolcmdgaaAddC
namespace Go.Proofs.Ytgfepbcolcmdgaa
open Go.RowKit

/-- One filter's block, as a row of one. -/
theorem row_one {w : World} {base b : Nat} {p : Pr} {v : Value} (h : Own w b #[.int .i64 p.op, .string p.text, .int .i64 p.n, .complex .f64 p.x p.y, v] 33) (hb : base ≤ b) :
    w.ownsRow base 33 5 (.slice (some ⟨b, 0, none⟩) 1 1) [p].length (newsOf (fun _ => v) 0 [p]) :=
  ⟨rfl, .inr ⟨b, 1, _, rfl, hb, h.blk, Nat.le_refl _, by decide, rfl, rfl⟩⟩

theorem Stock.lies3 {w : World} {base : Nat} {R : Nat → Rw} (h : Stock w base R) (i : Nat) {S : Nat → Prop} (hS : ∀ b, Sof w base R b → S b) (hO : ∀ b, (R i).v.ownBlock = some b → base ≤ b → b < w.heap.size → S b) (op : Int) (t : ByteArray) (n : Int) (x y : Nat) (ht : t.size ≤ maxLen) : Lies 5 pc S w (.node op t n x y (R i).l) (R i).v := by
  obtain ⟨oa, cap, g, e, h1, h2, hg⟩ := h.slice i
  rw [e] at hO ⊢
  refine .mk op t n x y _ oa cap g 0 (R i).V ht h1 h2 (fun hp => ⟨(hg hp).1, by
    obtain ⟨rfl, h3, h4⟩ := hg hp
    exact hO g rfl h3 h4⟩) (fun k p hp j u hu => ?_) fun k p hp => ?_
  · obtain ⟨rfl, _⟩ := hg (by have := some_pos hp; omega)
    obtain ⟨⟨a0, a1, a2, a3, a4⟩, _⟩ := h.at i e hp
    rw [Nat.zero_add]
    match j, hu with
    | 0, hu => cases hu; exact a0
    | 1, hu => cases hu; exact a1
    | 2, hu => cases hu; exact a2
    | 3, hu => cases hu; exact a3
    | 4, hu => cases hu; exact a4
  · exact ((h.row i).2 k p hp).mono (fun _ _ _ => rfl) fun b hb => hS b hb

/-- The argument's block, the result's, the row (0); 1 and 2: those two blocks as rows. -/
structure MInv (B : Nat) (bx zz : Array Value) (p : Pr) (v : Value) (w : World) (R : Nat → Rw) (wr : World) : Prop where
  o1 : Own wr w.heap.size bx 33
  o2 : Own wr (w.heap.size + 1) zz 33
  st : Stock wr B R
  r1 : (R 1).v.ownBlock = some w.heap.size
  r2 : (R 2).v.ownBlock = some (w.heap.size + 1)
  r0 : ∀ b, (R 0).v.ownBlock = some b → w.heap.size ≤ b
  bel : Below w.heap.size w wr
  kl : Lies 5 pc (Sof wr B R) wr p v

theorem MInv.later {B : Nat} {bx zz : Array Value} {p : Pr} {v : Value} {w : World} {R : Nat → Rw} {wr w' : World} (h : MInv B bx zz p v w R wr) (hb : Below wr.heap.size wr w') : MInv B bx zz p v w R w' :=
  ⟨h.o1.later hb, h.o2.later hb, h.st.later hb, h.r1, h.r2, h.r0, h.bel.trans (hb.mono h.bel.size), sof_lies hb h.kl⟩
theorem MInv.alloc {B : Nat} {bx zz : Array Value} {p : Pr} {v : Value} {w : World} {R : Nat → Rw} {wr : World} (h : MInv B bx zz p v w R wr) (o : Obj) : MInv B bx zz p v w R (wr.alloc o) := h.later ((Below.refl _ _).alloc (Nat.le_refl _) _)
theorem MInv.far {B : Nat} {bx zz : Array Value} {p : Pr} {v : Value} {w : World} {R : Nat → Rw} {wr : World} (h : MInv B bx zz p v w R wr) : some w.heap.size ≠ (R 0).v.ownBlock ∧ some (w.heap.size + 1) ≠ (R 0).v.ownBlock := by
  refine ⟨fun e => ?_, fun e => ?_⟩
  · rcases h.st.apart 0 1 (by omega) with h1 | h1
    · rw [h1] at e; cases e
    · exact h1 (by rw [← e, h.r1])
  · rcases h.st.apart 0 2 (by omega) with h1 | h1
    · rw [h1] at e; cases e
    · exact h1 (by rw [← e, h.r2])
theorem MInv.add {B : Nat} {bx zz : Array Value} {p : Pr} {v : Value} {w : World} {R : Nat → Rw} {wr w' : World} (h : MInv B bx zz p v w R wr) {r : Rw} (hst : Stock w' B (upd R 0 r)) (hgr : wr.grownBy w' (R 0).v.ownBlock) (hrb : ∀ b, r.v.ownBlock = some b → (R 0).v.ownBlock = some b ∨ wr.heap.size ≤ b) :
    MInv B bx zz p v w (upd R 0 r) w' := by
  refine ⟨h.o1.grown hgr h.far.1, h.o2.grown hgr h.far.2, hst, by rw [upd_far _ _ (by omega)]; exact h.r1, by rw [upd_far _ _ (by omega)]; exact h.r2, fun b hb => ?_, h.bel.grown hgr h.bel.size h.r0, ?_⟩
  · rw [upd_same] at hb
    rcases hrb b hb with h1 | h1
    · exact h.r0 b h1
    · exact Nat.le_trans h.bel.size h1
  · refine h.kl.mono (fun b o hb => hgr.cell_far _ hb.2.1 (hb.2.2 0)) (fun b hb => ⟨hb.1, Nat.lt_of_lt_of_le hb.2.1 hgr.size, fun j => ?_⟩)
    by_cases e : j = 0
    · subst e
      rw [upd_same]
      intro e
      rcases hrb b e.symm with h1 | h1
      · exact hb.2.2 0 h1.symm
      · have := hb.2.1; omega
    · rw [upd_far _ _ e]; exact hb.2.2 j
theorem MInv.start {B : Nat} {p : Pr} {v : Value} {w : World} (hB : B ≤ w.heap.size) (hL : Lies 5 pc (fun b => B ≤ b ∧ b < w.heap.size) w p v) :
    MInv B #[.int .i64 p.op, .string p.text, .int .i64 p.n, .complex .f64 p.x p.y, v] #[.int .i64 0, .string ⟨#[]⟩, .int .i64 0, .complex .f64 0 0, .slice none 0 0] p v w
      (upd (upd (fun _ => Rw.nil) 1 ⟨[p], .slice (some ⟨w.heap.size, 0, none⟩) 1 1, fun _ => v⟩) 2 ⟨[.node 0 ⟨#[]⟩ 0 0 0 []], .slice (some ⟨w.heap.size + 1, 0, none⟩) 1 1, fun _ => .slice none 0 0⟩)
      ((w.alloc (.cells #[.int .i64 p.op, .string p.text, .int .i64 p.n, .complex .f64 p.x p.y, v] 33)).alloc (.cells #[.int .i64 0, .string ⟨#[]⟩, .int .i64 0, .complex .f64 0 0, .slice none 0 0] 33)) := by
  have hbel : Below w.heap.size w ((w.alloc (.cells #[.int .i64 p.op, .string p.text, .int .i64 p.n, .complex .f64 p.x p.y, v] 33)).alloc (.cells #[.int .i64 0, .string ⟨#[]⟩, .int .i64 0, .complex .f64 0 0, .slice none 0 0] 33)) := ((Below.refl _ _).alloc (Nat.le_refl _) _).alloc (by simp) _
  have o1 : Own ((w.alloc (.cells #[.int .i64 p.op, .string p.text, .int .i64 p.n, .complex .f64 p.x p.y, v] 33)).alloc (.cells #[.int .i64 0, .string ⟨#[]⟩, .int .i64 0, .complex .f64 0 0, .slice none 0 0] 33)) w.heap.size #[.int .i64 p.op, .string p.text, .int .i64 p.n, .complex .f64 p.x p.y, v] 33 := (Own.new w _ _).alloc _
  have o2 : Own ((w.alloc (.cells #[.int .i64 p.op, .string p.text, .int .i64 p.n, .complex .f64 p.x p.y, v] 33)).alloc (.cells #[.int .i64 0, .string ⟨#[]⟩, .int .i64 0, .complex .f64 0 0, .slice none 0 0] 33)) (w.heap.size + 1) #[.int .i64 0, .string ⟨#[]⟩, .int .i64 0, .complex .f64 0 0, .slice none 0 0] 33 := Own.newAt _ _ _ (by simp)
  revert hbel o1 o2
  generalize ((w.alloc (.cells #[.int .i64 p.op, .string p.text, .int .i64 p.n, .complex .f64 p.x p.y, v] 33)).alloc (.cells #[.int .i64 0, .string ⟨#[]⟩, .int .i64 0, .complex .f64 0 0, .slice none 0 0] 33)) = W
  intro hbel o1 o2
  generalize hR : (upd (upd (fun _ => Rw.nil) 1 ⟨[p], .slice (some ⟨w.heap.size, 0, none⟩) 1 1, fun _ => v⟩) 2 ⟨[.node 0 ⟨#[]⟩ 0 0 0 []], .slice (some ⟨w.heap.size + 1, 0, none⟩) 1 1, fun _ => .slice none 0 0⟩) = R
  have e1 : R 1 = ⟨[p], .slice (some ⟨w.heap.size, 0, none⟩) 1 1, fun _ => v⟩ := by rw [← hR]; rfl
  have e2 : R 2 = ⟨[.node 0 ⟨#[]⟩ 0 0 0 []], .slice (some ⟨w.heap.size + 1, 0, none⟩) 1 1, fun _ => .slice none 0 0⟩ := by rw [← hR]; rfl
  have e0 : ∀ i, i ≠ 1 → i ≠ 2 → R i = Rw.nil := fun i h1 h2 => by rw [← hR, upd_far _ _ h2, upd_far _ _ h1]
  clear hR
  have hob : ∀ i, (R i).v.ownBlock = if i = 1 then some w.heap.size else if i = 2 then some (w.heap.size + 1) else none := by
    intro i
    by_cases h1 : i = 1
    · subst h1; rw [e1]; rfl
    by_cases h2 : i = 2
    · subst h2; rw [e2]; rfl
    rw [e0 i h1 h2, if_neg h1, if_neg h2]; rfl
  have hsof : ∀ b, B ≤ b → b < w.heap.size → Sof W B R b := by
    intro b hb hlt
    refine ⟨hb, Nat.lt_of_lt_of_le hlt hbel.size, fun i e => ?_⟩
    rw [hob i] at e
    split at e
    · have := Option.some.inj e; omega
    split at e
    · have := Option.some.inj e; omega
    · cases e
  have hk : Lies 5 pc (Sof W B R) W p v := hL.mono (fun b o hS => hbel.cell (p := ⟨b, o, none⟩) hS.2) fun b hS => hsof b hS.1 hS.2
  refine ⟨o1, o2, ⟨fun i => ?_, fun i j hij => ?_⟩, by rw [e1]; rfl, by rw [e2]; rfl, fun b hb => by rw [hob 0] at hb; simp at hb, hbel, hk⟩
  · by_cases h1 : i = 1
    · subst h1; rw [e1]
      refine ⟨row_one o1 hB, fun j q hq => ?_⟩
      match j, hq with
      | 0, hq => simp at hq; subst hq; exact hk
    by_cases h2 : i = 2
    · subst h2; rw [e2]
      refine ⟨row_one (p := .node 0 ⟨#[]⟩ 0 0 0 []) o2 (by omega), fun j q hq => ?_⟩
      match j, hq with
      | 0, hq => simp at hq; subst hq; exact lies_nil (by decide)
    rw [e0 i h1 h2]
    exact ⟨World.ownsRow_nil _ _ _ _, fun j q hq => by simp [Rw.nil] at hq⟩
  · rw [hob i, hob j]
    by_cases h1 : i = 1
    · rw [if_pos h1, if_neg (by omega)]
      right
      split
      · intro e; have := Option.some.inj e; omega
      · intro e; cases e
    rw [if_neg h1]
    by_cases h2 : i = 2
    · rw [if_pos h2, if_neg (show ¬ j = 2 by omega)]
      right
      split
      · intro e; have := Option.some.inj e; omega
      · intro e; cases e
    · rw [if_neg h2]; exact .inl rfl

/-- Where what is handed out lies: apart from the argument's block and the result's. -/
def S3 (B : Nat) (w wr : World) (b : Nat) : Prop := B ≤ b ∧ b < wr.heap.size ∧ b ≠ w.heap.size ∧ b ≠ w.heap.size + 1
theorem MInv.s3 {B : Nat} {bx zz : Array Value} {p : Pr} {v : Value} {w : World} {R : Nat → Rw} {wr : World} (h : MInv B bx zz p v w R wr) : ∀ b, Sof wr B R b → S3 B w wr b := by
  intro b hb
  refine ⟨hb.1, hb.2.1, fun e => ?_, fun e => ?_⟩
  · exact hb.2.2 1 (by rw [h.r1, e])
  · exact hb.2.2 2 (by rw [h.r2, e])
theorem MInv.row0 {B : Nat} {bx zz : Array Value} {p : Pr} {v : Value} {w : World} {R : Nat → Rw} {wr : World} (h : MInv B bx zz p v w R wr) (op : Int) (t : ByteArray) (n : Int) (x y : Nat) (ht : t.size ≤ maxLen) : Lies 5 pc (S3 B w wr) wr (.node op t n x y (R 0).l) (R 0).v :=
  h.st.lies3 0 h.s3 (fun b hb h1 h2 => ⟨h1, h2, fun e => h.far.1 (by rw [← e]; exact hb.symm), fun e => h.far.2 (by rw [← e]; exact hb.symm)⟩) op t n x y ht
theorem s3_lies {B : Nat} {w X : World} {q : Pr} {v : Value} (c0 c1 c2 c3 c4 : Value) (hl : Lies 5 pc (S3 B w X) X q v) : Lies 5 pc (fun b => B ≤ b ∧ b < (st5 X (w.heap.size + 1) c0 c1 c2 c3 c4).heap.size) (st5 X (w.heap.size + 1) c0 c1 c2 c3 c4) q v :=
  hl.mono (fun b o hS => World.cell?_of_block (st5_heap _ _ _ _ _ _ _ _ hS.2.2.2)) (fun b hS => ⟨hS.1, by rw [st5_size]; exact hS.2.1⟩)
theorem s3_set {B : Nat} {w X : World} {q : Pr} {v : Value} (o : Nat) (c : Value) (hl : Lies 5 pc (S3 B w X) X q v) : Lies 5 pc (S3 B w (X.setCell ⟨w.heap.size, o, none⟩ c)) (X.setCell ⟨w.heap.size, o, none⟩ c) q v :=
  hl.mono (fun b o' hS => World.cell?_of_block (Below.heap_setCell _ _ _ _ hS.2.2.1)) (fun b hS => ⟨hS.1, by rw [size_set]; exact hS.2.1, hS.2.2⟩)
theorem lies_kidsS {S : Nat → Prop} {w : World} {p : Pr} {v : Value} (h : Lies 5 pc S w p v) : Lies 5 pc S w (.node 0 ⟨#[]⟩ 0 0 0 p.kids) v := by
  cases h with
  | mk op t n x y kids oa cap b o V ht hl hc hn hcell hrec => exact .mk _ _ _ _ _ kids oa cap b o V (by decide) hl hc hn hcell hrec
/-- One filter in a block of its own, as a row that lies apart. -/
theorem lies_one_new {S : Nat → Prop} {w : World} {b : Nat} {p : Pr} {v : Value} (ho : Own w b #[.int .i64 p.op, .string p.text, .int .i64 p.n, .complex .f64 p.x p.y, v] 33) (hS : S b) (hl : Lies 5 pc S w p v) : Lies 5 pc S w (.node 0 ⟨#[]⟩ 0 0 0 [p]) (.slice (some ⟨b, 0, none⟩) 1 1) := by
  refine .mk 0 ⟨#[]⟩ 0 0 0 [p] (some ⟨b, 0, none⟩) 1 b 0 (fun _ => v) (by decide) (Nat.le_refl _) (by decide) (fun _ => ⟨rfl, hS⟩) (fun i q hq j u hu => ?_) (fun i q hq => ?_)
  · match i, hq with
    | 0, hq =>
      simp at hq; subst hq
      simp only [Nat.zero_mul, Nat.zero_add]
      rw [ho.cell]
      match j, hu with
      | 0, hu => cases hu; rfl
      | 1, hu => cases hu; rfl
      | 2, hu => cases hu; rfl
      | 3, hu => cases hu; rfl
      | 4, hu => cases hu; rfl
  · match i, hq with
    | 0, hq => simp at hq; subst hq; exact hl

def MergeOut (q : Pr) (B : Nat) (w : World) (e : Ending) (w' : World) : Prop :=
  ∃ v', e = .returned (.agg #[.int .i64 q.op, .string q.text, .int .i64 q.n, .complex .f64 q.x q.y, v']) ∧ Lies 5 pc (fun b => B ≤ b ∧ b < w'.heap.size) w' q v' ∧ Below w.heap.size w w'
theorem mergeOut_of {p q : Pr} {B : Nat} (h : p = q) {w : World} {e : Ending} {w' : World} (H : MergeOut q B w e w') : MergeOut p B w e w' := by rw [h]; exact H

def MRel (op no ru : Int) (t : ByteArray) (n : Int) (x y : Nat) (ks : List Pr) (len B : Nat) (bx zz : Array Value) (v : Value) (w : World) (lv iv : Value) (wr : World) : Prop :=
  ∃ (j : Nat) (R : Nat → Rw), j ≤ len ∧ iv = .int .i64 j ∧ lv = (R 0).v ∧ Hid (Pr.mergeC op no ru t n x y [] ks = Pr.mergeC op no ru t n x y (R 0).l (ks.drop j)) ∧ Hid ((R 0).l.length ≤ Pr.sizes (ks.take j)) ∧ Hid (MInv B bx zz (.node op t n x y ks) v w R wr)
theorem drop_one {l : List Pr} {k : Nat} {p : Pr} (hp : l[k]? = some p) : l.drop k = p :: l.drop (k + 1) := by
  obtain ⟨hk, e⟩ := List.getElem?_eq_some_iff.1 hp
  rw [← e]; exact List.drop_eq_getElem_cons hk
theorem merge_ru {op no ru : Int} {t : ByteArray} {n : Int} {x y : Nat} {l ks : List Pr} {k : Nat} {a : Pr} (ha : ks[k]? = some a) (h : a.op = ru) : Pr.mergeC op no ru t n x y l (ks.drop k) = a := by
  rw [drop_one ha, Pr.mergeC, if_pos h]
theorem merge_no {op no ru : Int} {t : ByteArray} {n : Int} {x y : Nat} {l ks : List Pr} {k : Nat} {a : Pr} (ha : ks[k]? = some a) (h : a.op ≠ ru) (h1 : a.op = no) : Pr.mergeC op no ru t n x y l (ks.drop k) = Pr.mergeC op no ru t n x y l (ks.drop (k + 1)) := by
  rw [drop_one ha, Pr.mergeC, if_neg h, if_pos h1]
theorem merge_op {op no ru : Int} {t : ByteArray} {n : Int} {x y : Nat} {l ks : List Pr} {k : Nat} {a : Pr} (ha : ks[k]? = some a) (h : a.op ≠ ru) (h1 : a.op ≠ no) (h2 : a.op = op) : Pr.mergeC op no ru t n x y l (ks.drop k) = Pr.mergeC op no ru t n x y (Pr.addC l a.kids) (ks.drop (k + 1)) := by
  rw [drop_one ha, Pr.mergeC, if_neg h, if_neg h1, if_pos h2]
theorem merge_one {op no ru : Int} {t : ByteArray} {n : Int} {x y : Nat} {l ks : List Pr} {k : Nat} {a : Pr} (ha : ks[k]? = some a) (h : a.op ≠ ru) (h1 : a.op ≠ no) (h2 : a.op ≠ op) : Pr.mergeC op no ru t n x y l (ks.drop k) = Pr.mergeC op no ru t n x y (Pr.addC l [a]) (ks.drop (k + 1)) := by
  rw [drop_one ha, Pr.mergeC, if_neg h, if_neg h1, if_neg h2]

end Go.Proofs.Ytgfepbcolcmdgaa
