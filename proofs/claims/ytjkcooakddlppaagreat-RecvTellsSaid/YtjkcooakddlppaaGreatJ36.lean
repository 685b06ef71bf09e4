/- Joined: RegP, LocG, FreB, FreK. -/
import Derived.Test.YtjkcooakddlppaaGreatJ17
import Derived.Test.YtjkcooakddlppaaGreatJ32
import Derived.Test.YtjkcooakddlppaaGreatJ35
import Derived.Test.YtjkcooakddlppaaGreatJ16
import Derived.Test.YtjkcooakddlppaaGreatJ34
/- What lies where no late store comes: told as 'in every world in which nothing but blocks of T turned'. No walk. -/
namespace Go.Proofs.YtjkcooakddlppaaGreat
set_option linter.unusedVariables false
set_option linter.unusedSimpArgs false
set_option maxRecDepth 100000
open Go Go.RowKit
def Sure (T : Nat → Prop) (w : World) (P : World → Prop) : Prop := ∀ w', But T w w' → P w'
section
variable {T : Nat → Prop} {w w' w1 : World} {P : World → Prop}
theorem Sure.now (h : Sure T w P) : P w := h w (But.refl _)
theorem But.mono {T' : Nat → Prop} (h : But T' w w') (hT : ∀ b, T' b → T b) : But T w w' := ⟨h.size, fun b hb ht => h.blk b hb fun h' => ht (hT b h')⟩
theorem Sure.but {T' : Nat → Prop} (h : Sure T w P) (hb : But T' w w') (hT : ∀ b, T' b → T b) : Sure T w' P := fun w2 h2 => h w2 ((hb.mono hT).trans h2)
theorem Sure.later (h : Sure T w P) (hb : Below w.heap.size w w') : Sure T w' P := fun w2 h2 => h w2 ((But.of hb).trans h2)
theorem Sure.mono {T' : Nat → Prop} (h : Sure T w P) (hT : ∀ b, T' b → T b) : Sure T' w P := fun w2 h2 => h w2 (h2.mono hT)
theorem Sure.stored {b : Nat} (h : Sure T w P) (hs : StoreR b w w1) (hT : T b) : Sure T w1 P := h.but hs.but fun k hk => by subst hk; exact hT
theorem Sure.imp {Q : World → Prop} (h : Sure T w P) (hi : ∀ w, P w → Q w) : Sure T w Q := fun w2 h2 => hi _ (h w2 h2)
theorem Sure.fresh {b : Nat} (h : Sure T w P) (hb : Later w w1) (hge : w.heap.size ≤ b) : Sure (fun k => T k ∨ k = b) w1 P := fun w2 h2 =>
  h w2 ⟨Nat.le_trans hb.size h2.size, fun k hk ht => (h2.blk k (Nat.lt_of_lt_of_le hk hb.size) (fun e => by rcases e with e | e; exact ht e; omega)).trans (hb.block k hk)⟩
theorem Own.stored {b b' : Nat} {C : Array Value} {t : TypeId} (h : Own w b' C t) (hs : StoreR b w w1) (hne : b' ≠ b) : Own w1 b' C t := h.but hs.but hne
theorem But.cell {b o : Nat} (h : But T w w') (hb : b < w.heap.size) (hT : ¬ T b) : w'.cell? ⟨b, o, none⟩ = w.cell? ⟨b, o, none⟩ := World.cell?_of_block (h.blk b hb hT)
theorem LPF.sure {B : Nat} {p : Pr} {v : Value} (h : LPF w B p v) : Sure (fun b => b < B) w fun w => LP w p v := fun w2 h2 =>
  h.mono (fun b o hS => h2.cell hS.2 (by have := hS.1; omega)) fun b hS => Nat.lt_of_lt_of_le hS.2 h2.size
theorem RowF.sure {B : Nat} {l : List Itm} {v : Value} (h : RowF w B l v) : Sure (fun b => b < B) w fun w => Row 8 ic w l v := fun w2 h2 => by
  obtain ⟨oa, cap, b, o, e, h, hB⟩ := h
  refine ⟨oa, cap, b, o, e, h.len, h.max, fun h0 => ⟨(h.at0 h0).1, Nat.lt_of_lt_of_le (h.at0 h0).2 h2.size⟩, fun k i hk j u hu => ?_, h.ok⟩
  have h0 : 0 < l.length := by have := some_posI hk; omega
  rw [h2.cell (h.at0 h0).2 (by have := hB h0; omega)]
  exact h.cell k i hk j u hu
theorem FrFresh.sure {B : Nat} {l : List Fr} {v : Value} (h : FrFresh w B l v) : Sure (fun b => b < B) w fun w => FrW w l v := fun w2 h2 =>
  h w2 (fun b hb hlt => h2.blk b hlt (by omega)) h2.size
theorem Own.part {b : Nat} {C : Array Value} {t : TypeId} (h : Own w b C t) (off : Nat) (l : List Value) (e : (C.toList.drop off).take l.length = l) : w.rangeAt b off l := fun j v hv => by
  have hj := (List.getElem?_eq_some_iff.1 hv).1
  rw [h.cell (off + j), ← Array.getElem?_toList, ← hv, ← List.getElem?_drop]
  conv => rhs; rw [← e]
  rw [List.getElem?_take_of_lt hj]
end
end Go.Proofs.YtjkcooakddlppaaGreat
/- The code's again of layer 9: a state in new memory. Walked. -/
namespace Go.Proofs.YtjkcooakddlppaaGreat
set_option linter.unusedVariables false
set_option linter.unusedSimpArgs false
set_option maxRecDepth 100000
open Go.RowKit
theorem ownsRow_agree {w w' : World} {base size n : Nat} {e : TypeId} {v : Value} {xs : List Value} (h : w.ownsRow base e size v n xs) (hb : ∀ b, base ≤ b → b < w.heap.size → w'.heap[b]? = w.heap[b]?) : w'.ownsRow base e size v n xs := by
  obtain ⟨h1, h2⟩ := h
  refine ⟨h1, ?_⟩
  rcases h2 with h2 | ⟨g, cap, cur, hv, hg, hh, r⟩
  · exact .inl h2
  · have hlt : g < w.heap.size := by
      rcases Nat.lt_or_ge g w.heap.size with hlt | hge
      · exact hlt
      · rw [Array.getElem?_eq_none hge] at hh; cases hh
    exact .inr ⟨g, cap, cur, hv, hg, (hb g hg hlt).trans hh, r⟩
theorem frFresh_of {w : World} {B B' : Nat} {l : List Fr} {U : Nat → Value} {v : Value} (h : w.ownsRow B 115 9 v l.length (frCs U 0 l)) (hi : ∀ i f, l[i]? = some f → OwnT w B' f.ids (U i)) (hB : 0 < l.length → B ≤ B') (hok : ∀ f ∈ l, ∀ s ∈ f.ids, s.size ≤ maxLen) : FrFresh w B l v := by
  intro w' h1 h2
  refine rowFr (ownsRow_agree h h1) fun k f hf => ?_
  have hB' := hB (by have := posA hf; omega)
  exact (OwnT.tx (ownsRow_agree (hi k f hf) fun b hb hlt => h1 b (by omega) hlt) (hok f (List.mem_of_getElem? hf)))
theorem below_both {B : Nat} {a b : World} (h : Below B a b) {p : Addr} (hp : p.block < B) (hB : B ≤ a.heap.size) (u : Value) : Below B (a.setCell p u) (b.setCell p u) := by
  refine ⟨h.os, h.tape, h.output, by simpa [World.setCell] using h.size, fun k hk => ?_⟩
  rcases Decidable.em (k = p.block) with e | e
  · subst e
    have hb := h.block _ hk
    simp only [World.setCell, Array.getElem?_modify, if_true, hb]
  · rw [Below.heap_setCell _ _ _ _ e, Below.heap_setCell _ _ _ _ e]
    exact h.block k hk
theorem FrW.fr_ok {w : World} {l : List Fr} {v : Value} (h : FrW w l v) : ∀ f ∈ l, ∀ s ∈ f.ids, s.size ≤ maxLen := by
  obtain ⟨U, oa, cap, b, o, _, h⟩ := h
  intro f hf s hs
  obtain ⟨k, hk⟩ := List.getElem?_of_mem hf
  exact (h.ids k f hk).ok s hs
structure AgX (w : World) (s : St) (v3 v4 v5 kv : Value) (X : World) : Prop where
  a : Own X w.heap.size (stA s v3 v4 v5 kv) 46
  t : Own X (w.heap.size + 1) stZ.toArray 46
  b : Below w.heap.size w X
  f : LPF X (w.heap.size + 2) s.f v3
  st : RowF X (w.heap.size + 2) s.store v4
  ou : RowF X (w.heap.size + 2) s.out v5
theorem AgX.later {w X X' : World} {s : St} {v3 v4 v5 kv : Value} (h : AgX w s v3 v4 v5 kv X) (hb : Below X.heap.size X X') : AgX w s v3 v4 v5 kv X' :=
  ⟨h.a.later hb, h.t.later hb, h.b.trans (hb.mono h.b.size), h.f.later hb, h.st.later hb, h.ou.later hb⟩
theorem LPF.setLow {w : World} {B b q : Nat} {p : Pr} {v : Value} (h : LPF w B p v) (hb : b < B) (u : Value) : LPF (w.setCell ⟨b, q, none⟩ u) B p v := h.setsAt hb [u] q
theorem AgX.setK {w X : World} {s : St} {v3 v4 v5 kv : Value} (h : AgX w s v3 v4 v5 kv X) (kv' : Value) : AgX w s v3 v4 v5 kv' (X.setCell ⟨w.heap.size, 16, none⟩ kv') :=
  ⟨by have := h.a.set 16 kv'; exact this, h.t.setFar _ _ (by show w.heap.size + 1 ≠ w.heap.size; omega), h.b.setCell (p := ⟨w.heap.size, 16, none⟩) (Nat.le_refl _) _, h.f.setLow (by omega) _, h.st.set (by omega) _, h.ou.set (by omega) _⟩
theorem AgX.fin {w wr : World} {s : St} {v3 v4 v5 kv : Value} (h : AgX w s v3 v4 v5 kv wr) (hk : FrFresh wr (w.heap.size + 2) s.k.l kv) (vs : List Value) (hv : vs = (stA s v3 v4 v5 kv).toList) :
    Own (wr.setCells (w.heap.size + 1) 0 vs) (w.heap.size + 1) vs.toArray 46 ∧ LPF (wr.setCells (w.heap.size + 1) 0 vs) w.heap.size s.f v3 ∧ RowF (wr.setCells (w.heap.size + 1) 0 vs) w.heap.size s.store v4 ∧ RowF (wr.setCells (w.heap.size + 1) 0 vs) w.heap.size s.out v5 ∧ FrFresh (wr.setCells (w.heap.size + 1) 0 vs) w.heap.size s.k.l kv ∧ Below w.heap.size w (wr.setCells (w.heap.size + 1) 0 vs) := by
  have hb : w.heap.size + 1 < w.heap.size + 2 := by omega
  exact ⟨h.t.sets vs (by rw [hv]; rfl), (h.f.setsAt hb vs 0).mono' (by omega), (h.st.sets hb vs 0).mono (by omega), (h.ou.sets hb vs 0).mono (by omega), (hk.sets hb vs 0).mono (by omega), below_sets (b := w.heap.size + 1) (by omega) vs 0 h.b⟩
theorem ids_le_flat {l : List Fr} {f : Fr} (h : f ∈ l) : f.ids.length ≤ (flatI l).length := by
  induction l with
  | nil => cases h
  | cons a l ih =>
    simp only [flatI, List.flatMap_cons, List.length_append]
    rcases List.mem_cons.1 h with e | h
    · subst e; omega
    · have := ih h; simp only [flatI] at this; omega
structure AgS (X : World) (B : Nat) (l : List Fr) (U : Nat → Value) (rv : Value) (g k : Nat) (U' : Nat → Value) (wr : World) : Prop where
  e : X.heap.size = B
  b : Below B X wr
  row : wr.ownsRow B 115 9 rv l.length (frCs U' 0 l)
  done : ∀ i f, i < k → l[i]? = some f → OwnT wr (g + 1) f.ids (U' i)
  left : ∀ i, k ≤ i → U' i = U i
theorem fr_at {w : World} {B g len c k : Nat} {l : List Fr} {U : Nat → Value} {f : Fr} (h : w.ownsRow B 115 9 (.slice (some ⟨g, 0, none⟩) len c) len (frCs U 0 l)) (hlen : l.length = len) (hf : l[k]? = some f) : w.cell? ⟨g, k * 9, none⟩ = some (U k) := by
  have hk := posA hf
  have e := frCs_get U 0 l k f hf 0 (by omega)
  rw [Nat.add_zero, Nat.zero_add] at e
  rw [h.cellAt (k * 9) (by omega), e]
  rfl
def AgRel (X : World) (B : Nat) (l : List Fr) (len : Nat) (U : Nat → Value) (rv : Value) (g : Nat) (i : Value) (wr : World) : Prop :=
  ∃ (k : Nat) (U' : Nat → Value), k ≤ len ∧ i = .int .i64 k ∧ Hid (AgS X B l U rv g k U' wr)
theorem AgS.step {X wr w8 : World} {B : Nat} {l : List Fr} {U U' : Nat → Value} {len cap g k : Nat} {f : Fr} {u8 : Value} {C : Array Value} {T : TypeId} (h : AgS X B l U (.slice (some ⟨g, 0, none⟩) len cap) g k U' wr) (hlen : l.length = len) (hf : l[k]? = some f)
    (hL : OwnT w8 (wr.alloc (.cells C T)).drew.heap.size f.ids u8) (hb : Below (wr.alloc (.cells C T)).drew.heap.size (wr.alloc (.cells C T)).drew w8) : AgS X B l U (.slice (some ⟨g, 0, none⟩) len cap) g (k + 1) (updU U' k u8) (w8.setCell ⟨g, k * 9, none⟩ u8) := by
  have hk := posA hf
  have hb' : Below wr.heap.size wr w8 := (((Below.refl wr.heap.size wr).alloc (Nat.le_refl _) _).drew).trans (hb.mono (by simp))
  have hg := h.row.lt g rfl
  have hs : (wr.alloc (.cells C T)).drew.heap.size = wr.heap.size + 1 := by simp
  subst hlen
  refine ⟨h.e, ?_, ?_, ?_, ?_⟩
  · exact (h.b.trans (hb'.mono (by have := h.b.size; have := h.e; omega))).setCell (p := ⟨g, k * 9, none⟩) hg.1 _
  · have e := frCs_set U' l 0 k f f u8 hf rfl
    rw [Nat.zero_add, set_same hf] at e
    rw [e]
    exact row_set (ownsRow_below h.row hb') u8 (by omega)
  · intro i p hi hp
    rcases Decidable.em (i = k) with e | e
    · subst e
      rw [hf] at hp; cases hp
      rw [updU_same]
      exact ownsRow_setCell_below (a := ⟨g, i * 9, none⟩) ((OwnT.mono hL (by rw [hs]; omega : g + 1 ≤ _))) (by show g < g + 1; omega) _
    · rw [updU_far _ _ e]
      exact ownsRow_setCell_below (a := ⟨g, k * 9, none⟩) (OwnT.later (h.done i p (by omega) hp) hb') (by show g < g + 1; omega) _
  · intro i hi
    rw [updU_far _ _ (by omega)]
    exact h.left i (by omega)
end Go.Proofs.YtjkcooakddlppaaGreat
/- The code's fresh: Small, Filter, Whole. Walked. -/
namespace Go.Proofs.YtjkcooakddlppaaGreat
set_option linter.unusedVariables false
set_option linter.unusedSimpArgs false
set_option maxRecDepth 100000
open Go.RowKit
theorem freKey {w w8 : World} {p : Pr} {o8 : Option Addr} {c8 : Nat} {Z : Array Value} (OZ : Own w8 (w.heap.size + 1) Z 43) (hZ : Z.size = 5) (HL : LPF w8 (w.heap.size + 1 + 1) p (.slice o8 p.kids.length c8)) (BE : Below w.heap.size w w8) :
    Own (w8.setCells (w.heap.size + 1) 0 (pc p (.slice o8 p.kids.length c8))) (w.heap.size + 1) (pc p (.slice o8 p.kids.length c8)).toArray 43 ∧ LPF (w8.setCells (w.heap.size + 1) 0 (pc p (.slice o8 p.kids.length c8))) w.heap.size p (.slice o8 p.kids.length c8) ∧ Below w.heap.size w (w8.setCells (w.heap.size + 1) 0 (pc p (.slice o8 p.kids.length c8))) :=
  ⟨OZ.sets _ (by rw [hZ]; rfl), (HL.setsAt (by omega) _ _).mono' (by omega), below_sets (by omega) _ _ BE⟩
set_option maxHeartbeats 4000000 in
theorem freSmall_calls (p : Pr) (v : Value) (w : World) (hL : LP w p v) (hsz : p.size ≤ 60000) :
    Calls Tryz.prog 92 #[prV p v] w fun e w' => e = .returned (.bool true) ∧ Below w.heap.size w w' := by
  obtain ⟨oa, cap, rfl⟩ := lies_val hL
  have BE := Lib.hid ((Below.refl w.heap.size w).alloc (Nat.le_refl _) (.cells #[.int .i64 p.op, .string p.text, .int .i64 p.n, .complex .f64 p.x p.y, .slice oa p.kids.length cap] 43))
  have HL := Lib.hid hL
  clear hL
  have CL := fun w' h => Lib.hid (freLeft_calls p (.slice oa p.kids.length cap) 65536 w' h (by omega) (by omega))
  have g0 : decide ((65536 : Int) - (p.size : Int) ≥ 0) = true := decide_eq_true (by omega)
  have g1 : (0 : Int) ≤ 65536 - (p.size : Int) := by omega
  generalize (65536 : Int) - (p.size : Int) = r at *
  clear hsz
  go_enter Tryz.func92, Tryz.ntmps92
  go_wp2_with (go_at_call 140; (with_reducible refine (CL _ (HL.out.later BE.out (Nat.le_refl _))).out.mono ?_); rintro e w3 ⟨rfl, hb⟩; replace BE := Lib.hid (BE.out.trans (hb.mono BE.out.size)); clear hb)
  go_ret
  exact ⟨rfl, BE.out⟩
set_option maxHeartbeats 4000000 in
theorem freFilt_calls (p : Pr) (v : Value) (w : World) (hL : LP w p v) (hsz : p.size ≤ 1000) :
    Calls Tryz.prog 58 #[prV p v] w fun e w' => ∃ v', e = .returned (prV p v') ∧ LPF w' w.heap.size p v' ∧ Below w.heap.size w w' := by
  obtain ⟨oa, cap, rfl⟩ := lies_val hL
  have OP := Lib.hid ((Own.new w #[.int .i64 p.op, .string p.text, .int .i64 p.n, .complex .f64 p.x p.y, .slice oa p.kids.length cap] 43).alloc (.cells pZ 43))
  have OZ := Lib.hid (Own.newAt (w.alloc (.cells #[.int .i64 p.op, .string p.text, .int .i64 p.n, .complex .f64 p.x p.y, .slice oa p.kids.length cap] 43)) pZ 43 (b := w.heap.size + 1) (by simp))
  have BE := Lib.hid (((Below.refl w.heap.size w).alloc (Nat.le_refl _) (.cells #[.int .i64 p.op, .string p.text, .int .i64 p.n, .complex .f64 p.x p.y, .slice oa p.kids.length cap] 43)).alloc (by simp) (.cells pZ 43))
  have HL := Lib.hid hL
  clear hL
  have CL := fun w' h => Lib.hid (freSmall_calls p (.slice oa p.kids.length cap) w' h (by omega))
  have CF := fun w' h => Lib.hid (freFilter_calls p (.slice oa p.kids.length cap) w' h hsz)
  have lp := OP.out.cell
  have zp := OP.out.lt
  clear hsz
  go_enter Tryz.func58, Tryz.ntmps58
  go_wp2_with (first
    | (go_at_call 92; (with_reducible refine (CL _ (HL.out.later BE.out (Nat.le_refl _))).out.mono ?_); rintro e w3 ⟨rfl, hb⟩; clear lp zp; replace OP := Lib.hid (OP.out.later hb); replace OZ := Lib.hid (OZ.out.later hb); replace BE := Lib.hid (BE.out.trans (hb.mono BE.out.size)); clear hb; have lp := OP.out.cell; have zp := OP.out.lt)
    | (go_at_call 107; (with_reducible refine (CF _ (HL.out.later BE.out (Nat.le_refl _))).out.mono ?_); rintro e w8 ⟨v8, rfl, hL8, hb8⟩; obtain ⟨o8, c8, rfl⟩ := lies_val hL8.lp; have zz := OZ.out.lt; have HL8 := Lib.hid (hL8.mono' (B' := w.heap.size + 1 + 1) (by omega)); replace OZ := Lib.hid (OZ.out.later hb8); replace BE := Lib.hid (BE.out.trans (hb8.mono BE.out.size)); clear lp zp zz hL8 hb8 OP; have cz := OZ.out.cell; have fz := OZ.out.free; have zz := OZ.out.lt)
    | fail)
  have KEY : Hid (Own (((((w8.setCell ⟨w.heap.size + 1, 0, none⟩ (.int .i64 p.op)).setCell ⟨w.heap.size + 1, 1, none⟩ (.string p.text)).setCell ⟨w.heap.size + 1, 2, none⟩ (.int .i64 p.n)).setCell ⟨w.heap.size + 1, 3, none⟩ (.complex .f64 p.x p.y)).setCell ⟨w.heap.size + 1, 4, none⟩ (.slice o8 p.kids.length c8)) (w.heap.size + 1) #[.int .i64 p.op, .string p.text, .int .i64 p.n, .complex .f64 p.x p.y, .slice o8 p.kids.length c8] 43 ∧ LPF (((((w8.setCell ⟨w.heap.size + 1, 0, none⟩ (.int .i64 p.op)).setCell ⟨w.heap.size + 1, 1, none⟩ (.string p.text)).setCell ⟨w.heap.size + 1, 2, none⟩ (.int .i64 p.n)).setCell ⟨w.heap.size + 1, 3, none⟩ (.complex .f64 p.x p.y)).setCell ⟨w.heap.size + 1, 4, none⟩ (.slice o8 p.kids.length c8)) w.heap.size p (.slice o8 p.kids.length c8) ∧ Below w.heap.size w (((((w8.setCell ⟨w.heap.size + 1, 0, none⟩ (.int .i64 p.op)).setCell ⟨w.heap.size + 1, 1, none⟩ (.string p.text)).setCell ⟨w.heap.size + 1, 2, none⟩ (.int .i64 p.n)).setCell ⟨w.heap.size + 1, 3, none⟩ (.complex .f64 p.x p.y)).setCell ⟨w.heap.size + 1, 4, none⟩ (.slice o8 p.kids.length c8))) :=
    Lib.hid (freKey OZ.out rfl HL8.out BE.out)
  clear cz fz zz OZ BE HL8
  revert KEY
  generalize World.setCell (World.setCell (World.setCell (World.setCell (World.setCell _ _ _) _ _) _ _) _ _) _ _ = W5
  intro KEY
  have lf := KEY.out.1.cell
  exact bodyPost_ret (v := .agg #[.int .i64 p.op, .string p.text, .int .i64 p.n, .complex .f64 p.x p.y, .slice o8 p.kids.length c8]) (by simp [results, Tryz.results58, go_sem, lf]) rfl ⟨_, rfl, KEY.out.2.1, KEY.out.2.2⟩
end Go.Proofs.YtjkcooakddlppaaGreat
/- The code's fresh: what is known in new memory. Walked. -/
namespace Go.Proofs.YtjkcooakddlppaaGreat
set_option linter.unusedVariables false
set_option linter.unusedSimpArgs false
set_option maxRecDepth 100000
open Go.RowKit
abbrev knZ : Array Value := #[.int .i64 0, .int .i64 0, .int .i64 0, .int .i64 0, .int .i64 0, .int .i64 0, .int .i64 0, .int .i64 0, .slice none 0 0]
structure KnX (w : World) (k : Kn) (kv : Value) (X : World) : Prop where
  a : Own X w.heap.size (knA k.star kv) 31
  t : Own X (w.heap.size + 1) knZ 31
  b : Below w.heap.size w X
theorem KnX.later {w X X' : World} {k : Kn} {kv : Value} (h : KnX w k kv X) (hb : Below X.heap.size X X') : KnX w k kv X' := ⟨h.a.later hb, h.t.later hb, h.b.trans (hb.mono h.b.size)⟩
theorem KnX.setK {w X : World} {k : Kn} {kv : Value} (h : KnX w k kv X) (kv' : Value) : KnX w k kv' (X.setCell ⟨w.heap.size, 8, none⟩ kv') :=
  ⟨by have := h.a.set 8 kv'; exact this, h.t.setFar _ _ (by show w.heap.size + 1 ≠ w.heap.size; omega), h.b.setCell (p := ⟨w.heap.size, 8, none⟩) (Nat.le_refl _) _⟩
theorem KnX.fin {w wr : World} {k : Kn} {kv : Value} (h : KnX w k kv wr) (hk : FrFresh wr (w.heap.size + 2) k.l kv) (vs : List Value) (hv : vs = (knA k.star kv).toList) :
    Own (wr.setCells (w.heap.size + 1) 0 vs) (w.heap.size + 1) vs.toArray 31 ∧ FrFresh (wr.setCells (w.heap.size + 1) 0 vs) w.heap.size k.l kv ∧ Below w.heap.size w (wr.setCells (w.heap.size + 1) 0 vs) := by
  have hb : w.heap.size + 1 < w.heap.size + 2 := by omega
  exact ⟨h.t.sets vs (by rw [hv]; rfl), (hk.sets hb vs 0).mono (by omega), below_sets (b := w.heap.size + 1) (by omega) vs 0 h.b⟩
set_option maxRecDepth 100000 in
set_option maxHeartbeats 8000000 in
theorem freKnow_calls (k : Kn) (kv : Value) (w : World) (hF : FrW w k.l kv) (hl : k.l.length ≤ 10000) (hi : (flatI k.l).length ≤ 10000) :
    Calls Tryz.prog 86 #[knV k.star kv] w fun e w' => ∃ kv', e = .returned (knV k.star kv') ∧ FrFresh w' w.heap.size k.l kv' ∧ Below w.heap.size w w' := by
  have HOK := Lib.hid hF.fr_ok
  obtain ⟨U, ok, ck, bk, okk, rfl, hF⟩ := hF
  have HF := Lib.hid hF
  have HFL := Lib.hid hi
  have HLL := Lib.hid hl
  have AX : Hid (KnX w k (.slice ok k.l.length ck) ((w.alloc (.cells (knA k.star (.slice ok k.l.length ck)) 31)).alloc (.cells knZ 31))) := Lib.hid ⟨(Own.new w (knA k.star (.slice ok k.l.length ck)) 31).alloc (.cells knZ 31), Own.newAt (w.alloc (.cells (knA k.star (.slice ok k.l.length ck)) 31)) knZ 31 (b := w.heap.size + 1) (by simp), ((Below.refl w.heap.size w).alloc (Nat.le_refl _) (.cells (knA k.star (.slice ok k.l.length ck)) 31)).alloc (by simp) (.cells knZ 31)⟩
  clear hF hi hl
  go_enter Tryz.func86, Tryz.ntmps86
  go_upto_region 1 with fail
  revert AX
  generalize World.alloc (World.alloc _ _) _ = X1
  intro AX
  have CF9 := Lib.hid (cloneF_calls k.l U ok ck bk okk X1 (HF.out.later AX.out.b (Nat.le_refl _)) (by have := HLL.out; omega))
  have l1 := AX.out.a.cell
  have f1 := AX.out.a.free
  have z1 := AX.out.a.lt
  go_upto_region 2 with (go_at_call 130; refine CF9.out.mono ?_; rintro e w9 ⟨v9, rfl, hr9, hb9⟩; have HR9 := Lib.hid hr9; obtain ⟨o9, c9, g, rfl, r1, r2, r3⟩ := row_slice hr9; clear l1 f1 z1 hr9; have A9 := Lib.hid (AX.out.a.later hb9); have HB9 := Lib.hid hb9; have HG := Lib.hid r3; have l1 := A9.out.cell; have f1 := A9.out.free; have z1 := A9.out.lt; clear hb9 r3)
  unfold maxLen at r2
  clear l1 f1 z1 CF9 A9
  have AY := Lib.hid (AX.out.setK (.slice o9 k.l.length c9))
  have AS : Hid (AgS (X1.setCell ⟨w.heap.size, 8, none⟩ (.slice o9 k.l.length c9)) X1.heap.size k.l U (.slice o9 k.l.length c9) g 0 U (w9.setCell ⟨w.heap.size, 8, none⟩ (.slice o9 k.l.length c9))) := Lib.hid ⟨by simp [World.setCell], below_both HB9.out (p := ⟨w.heap.size, 8, none⟩) AX.out.a.lt (Nat.le_refl _) _, ownsRow_setCell_below HR9.out AX.out.a.lt _, fun i f hi => absurd hi (by omega), fun _ _ => rfl⟩
  have zX := Lib.hid (show w.heap.size + 2 ≤ X1.heap.size from by have := AX.out.t.lt; omega)
  clear AX HB9 HR9
  revert AY AS
  generalize World.setCell w9 _ _ = W2
  generalize World.setCell X1 _ _ = X
  intro AY AS
  generalize X1.heap.size = B at *
  have aw := AY.out.a.below AS.out.b (by have := zX.out; omega)
  have l1 := aw.cell
  have z1 := aw.lt
  clear aw
  generalize hlen : k.l.length = len at *
  have HLEN := Lib.hid hlen
  clear hlen
  go_wp2_with fail
  go_loopw [12] (fun i wr => AgRel X B k.l len U (.slice o9 len c9) g i wr) (fun i _ => len - (intOf i).toNat)
  case atStart => exact ⟨0, U, Nat.zero_le _, rfl, AS⟩
  case round =>
    clear AS l1 z1
    obtain ⟨j, U', hk, rfl, AS⟩ := hrel
    have OX0 := Lib.hid (AY.out.a.below AS.out.b (by have := zX.out; omega))
    by_cases hlt : j < len
    · obtain ⟨f, hf⟩ : ∃ f, k.l[j]? = some f := ⟨_, List.getElem?_eq_getElem (by rw [HLEN.out]; exact hlt)⟩
      obtain ⟨rfl, _, _⟩ := HG.out (by omega)
      have hrow := AS.out.row
      rw [HLEN.out] at hrow
      have zg : B ≤ g ∧ g < wr.heap.size := hrow.lt g rfl
      have hT := (HF.out.ids j f hf).later (AY.out.b.trans (AS.out.b.mono (by have := zX.out; omega))) (Nat.le_refl _)
      obtain ⟨ou, cu, hU⟩ := hT.val
      have hUk : U' j = .slice ou f.ids.length cu := (AS.out.left j (Nat.le_refl _)).trans hU
      obtain ⟨c0, c1, c2, c3', c4', c5', c6, c7, c8⟩ := fc_cells (w := wr) (f := f) (u := U' j) (b := g) (o := j * 9) (fun i z hz => by
        have hj : i < 9 := (List.getElem?_eq_some_iff.1 hz).1
        rw [hrow.cellAt (j * 9 + i) (by omega), frCs_get _ _ _ _ _ hf _ hj, Nat.zero_add]
        exact hz)
      rw [hUk] at c0
      rw [hU] at hT
      have hlen9 := ids_le_flat (List.mem_of_getElem? hf)
      have hfl := HFL.out
      have CC := Lib.hid (cloneT_calls f.ids (.slice ou f.ids.length cu) (wr.alloc (.cells #[.slice ou f.ids.length cu, .int .i64 (f.v 0), .int .i64 (f.v 1), .int .i64 (f.v 2), .int .i64 (f.v 3), .int .i64 (f.v 4), .int .i64 (f.v 5), .int .i64 (f.v 6), .int .i64 (f.v 7)] 115)).drew (hT.later (((Below.refl wr.heap.size wr).alloc (Nat.le_refl _) _).drew) (Nat.le_refl _)) (by omega))
      have OX := Lib.hid (OX0.out.alloc (.cells #[.slice ou f.ids.length cu, .int .i64 (f.v 0), .int .i64 (f.v 1), .int .i64 (f.v 2), .int .i64 (f.v 3), .int .i64 (f.v 4), .int .i64 (f.v 5), .int .i64 (f.v 6), .int .i64 (f.v 7)] 115))
      have OQ := Lib.hid (Own.new wr #[.slice ou f.ids.length cu, .int .i64 (f.v 0), .int .i64 (f.v 1), .int .i64 (f.v 2), .int .i64 (f.v 3), .int .i64 (f.v 4), .int .i64 (f.v 5), .int .i64 (f.v 6), .int .i64 (f.v 7)] 115)
      have HROW := Lib.hid hrow
      have HF2 := Lib.hid hf
      have HUK := Lib.hid hUk
      have hg1 : w.heap.size ≠ g := by have := zX.out; omega
      have hg3 : wr.heap.size ≠ g := by omega
      have zg1 := zg.2
      clear hT hU hUk hlen9 hfl hrow
      go_upto_region 5 with fail
      clear c0 c1 c2 c3' c4' c5' c6 c7 c8
      go_region_held3 (fun w' => (∀ o, w'.cell? ⟨w.heap.size, o, none⟩ = (knA k.star (.slice (some ⟨g, 0, none⟩) len c9) : Array Value)[o]?) ∧ (∀ o, w'.cell? ⟨wr.heap.size, o, none⟩ = (#[.slice ou f.ids.length cu, .int .i64 (f.v 0), .int .i64 (f.v 1), .int .i64 (f.v 2), .int .i64 (f.v 3), .int .i64 (f.v 4), .int .i64 (f.v 5), .int .i64 (f.v 6), .int .i64 (f.v 7)] : Array Value)[o]?)) (first | with_reducible exact ⟨OX8.out.cell, OQ8.out.cell⟩ | with_reducible exact ⟨(OX8.out.setFar ⟨g, j * 9, none⟩ _ hg1).cell, (OQ8.out.setFar ⟨g, j * 9, none⟩ _ hg3).cell⟩ | with_reducible exact ⟨OX.out.cell, OQ.out.cell⟩ | with_reducible exact ⟨OX.out.drew.cell, OQ.out.drew.cell⟩) (first
        | (go_simp; go_at_call 131; (with_reducible refine CC.out.mono ?_); rintro e w8 ⟨v8, rfl, hL8, hb8⟩; obtain ⟨o8, c8, rfl⟩ := hL8.val; have OX8 := Lib.hid (OX.out.drew.later hb8); have OQ8 := Lib.hid (OQ.out.drew.later hb8); have hb9 : Below wr.heap.size wr w8 := (((Below.refl wr.heap.size wr).alloc (Nat.le_refl _) _).drew).trans (hb8.mono (by simp)); have hrow8 := ownsRow_below HROW.out hb9; have fg := row_free hrow8 (j * 9); have zg8 := (hrow8.lt g rfl).2; have e0 := fr_at hrow8 HLEN.out HF2.out; rw [HUK.out] at e0; clear hrow8; have HL8 := Lib.hid hL8; have HB8 := Lib.hid hb8; clear hL8 hb8 hb9)
        | fail)
      have KEY : Hid (AgS X B k.l U (.slice (some ⟨g, 0, none⟩) len c9) g (j + 1) (updU U' j (.slice o8 f.ids.length c8)) (w8.setCell ⟨g, j * 9, none⟩ (.slice o8 f.ids.length c8))) := Lib.hid (AgS.step AS.out HLEN.out HF2.out HL8.out HB8.out)
      clear e0 fg zg8 OX8 OQ8 HL8 HB8 CC OX OQ AS OX0
      revert KEY
      generalize World.setCell w8 _ _ = W5
      intro KEY
      go_wp2_with fail
      go_roundw
      case rel => exact ⟨j + 1, _, by omega, by go_num, KEY⟩
      case measure => simp [intOf]; omega
    · have e : j = len := by omega
      subst e
      have hrow := AS.out.row
      have FF := Lib.hid ((frFresh_of hrow (fun i f hf => AS.out.done i f (by have := posA hf; have := HLEN.out; omega) hf) (fun h0 => Nat.le_succ_of_le (HG.out (by have := HLEN.out; omega)).2.1) HOK.out).mono zX.out)
      have AW := AY.out.later (AS.out.e ▸ AS.out.b)
      have HK := Lib.hid (AW.fin FF.out (knA k.star (.slice o9 j c9)).toList rfl)
      have OAR := Lib.hid AW.a
      have OTR := Lib.hid AW.t
      clear AY AW FF AS OX0 hrow
      go_wp2_with (first | (refine wpList_load_mid (by rfl) 31 _ (by rfl) w.heap.size 0 (by rfl) (knA k.star (.slice o9 j c9)).toList _ OAR.out.range Tryz.underlying31 (by rfl) (by kernel_rfl) ?_) | (refine wpList_store_mid (by rfl) 31 _ _ (by rfl) (w.heap.size + 1) 0 (knA k.star (.slice o9 j c9)) (by rfl) (by rfl) (OTR.out.there (by rfl)) (by kernel_rfl) (by simp [Value.oneCell']) ?_) | fail)
      revert HK
      generalize World.setCells _ _ _ _ = WW
      intro HK
      exact ret_cell (by rfl) (by rfl) (l := (knA k.star (.slice o9 j c9)).toList) HK.out.1.range Tryz.underlying31 (by rfl) (by kernel_rfl) rfl ⟨_, rfl, HK.out.2⟩
end Go.Proofs.YtjkcooakddlppaaGreat
