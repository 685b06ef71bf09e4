/- Joined: LocF2, RefSt11, SrvA, LocG, SrvK. -/
import Derived.Test.YthbjgfennclidaaGreatJ32
import Derived.Laws.EntriesVeiled
import Derived.Test.YthbjgfennclidaaGreatJ31
import Derived.Test.YthbjgfennclidaaGreatJ28
import Derived.Test.YthbjgfennclidaaGreatJ26
import Derived.Deep.RegionLaw
import Derived.Test.YthbjgfennclidaaGreatJ29
import Derived.Test.YthbjgfennclidaaGreatJ17
import Derived.Deep.DeepCutAuto
import Derived.Test.YthbjgfennclidaaGreatJ08
import Derived.RangeFuncBox
import Derived.RangeFuncLeaves
import Derived.RangeFuncFrom
import Derived.Shelf.Abstract
import Derived.WalkKit
import Derived.OwnWalkIn
import Derived.TacticsInMore
import Derived.LoopNIn
import Derived.LoopIn
/- The code's filter of layer 9: the walks. -/
namespace Go.Proofs.YthbjgfennclidaaGreat
set_option linter.unusedVariables false
set_option linter.unusedSimpArgs false
set_option maxRecDepth 100000
open Go.RowKit
end Go.Proofs.YthbjgfennclidaaGreat
/- What a state's replica does by itself, the document's answers: Filter. Walked. -/
namespace Go.Proofs.YthbjgfennclidaaGreat
set_option linter.unusedVariables false
set_option linter.unusedSimpArgs false
set_option maxRecDepth 100000
open Go.RowKit
/-! ### How much is known -/
end Go.Proofs.YthbjgfennclidaaGreat
/- The code's small functions of layer 12, and what it lists there. Walked. -/
namespace Go.Proofs.YthbjgfennclidaaGreat
set_option linter.unusedVariables false
set_option linter.unusedSimpArgs false
set_option maxRecDepth 100000
open Go Go.RowKit
set_option maxHeartbeats 400000 in
theorem srvWithin_calls (n a b : Int) (w : World) :
    Calls Tryz.prog 41 #[.int .i64 n, .int .i64 a, .int .i64 b] w fun e w' => e = .returned (.bool (inB n a b)) ∧ w = w' := by
  unfold inB
  by_cases h : a ≤ n <;> by_cases h' : n ≤ b <;>
  ( go_enter Tryz.func41, Tryz.ntmps41
    go_wp2
    go_ret
    exact ⟨ret_bool (by simp [h, h']), rfl⟩ )
set_option maxRecDepth 100000 in
set_option maxHeartbeats 4000000 in
theorem srvBare_calls (m : Mg) (fv kv hv : Value) (ol : Option Addr) (cl : Nat) (w : World) :
    Calls Tryz.prog 42 #[.agg (mgA m fv kv hv (.slice ol m.l.length cl))] w fun e w' => e = .returned (.bool (bareB m)) ∧ Below w.heap.size w w' := by
  unfold bareB
  have OA := Lib.hid (Own.new w (mgA m fv kv hv (.slice ol m.l.length cl)) 47)
  have BEL := Lib.hid ((Below.refl w.heap.size w).alloc (Nat.le_refl _) (.cells (mgA m fv kv hv (.slice ol m.l.length cl)) 47))
  have lA := OA.out.cell
  have zA := OA.out.lt
  generalize m.l.length = len at *
  clear OA
  by_cases h1 : m.turn = 0
  · by_cases h2 : m.n = 0
    · by_cases h3 : len = 0
      · subst h3
        cases h4 : m.star <;>
        ( go_enter Tryz.func42, Tryz.ntmps42
          go_wp2_with fail
          go_ret
          exact ⟨ret_bool (by simp [h1, h2]), BEL.out⟩ )
      · have h3' : ¬ (len : Int) = 0 := by omega
        go_enter Tryz.func42, Tryz.ntmps42
        go_wp2_with fail
        go_ret
        exact ⟨ret_bool (by simp [h1, h2, h3]), BEL.out⟩
    · go_enter Tryz.func42, Tryz.ntmps42
      go_wp2_with fail
      go_ret
      exact ⟨ret_bool (by simp [h1, h2]), BEL.out⟩
  · go_enter Tryz.func42, Tryz.ntmps42
    go_wp2_with fail
    go_ret
    exact ⟨ret_bool (by simp [h1]), BEL.out⟩
set_option maxHeartbeats 1000000 in
theorem srvOf_calls (h : Itm) (w : World) :
    Calls Tryz.prog 93 #[.agg (hc h).toArray] w fun e w' => e = .returned (iV (ofI h)) ∧ Below w.heap.size w w' := by
  go_enter Tryz.func93, Tryz.ntmps93
  go_wp2
  exact bodyPost_ret (v := iV (ofI h)) (by simp [results, Tryz.results93, go_sem, ofI]) rfl ⟨rfl, ((Below.refl _ _).alloc (Nat.le_refl _) _).alloc (by simp) _⟩
set_option maxHeartbeats 1000000 in
theorem srvGoes_calls (h : Itm) (r c : Int) (w : World) :
    Calls Tryz.prog 115 #[.agg (hc h).toArray, .agg #[.int .i64 r, .int .i64 c]] w fun e w' => e = .returned (.agg (eA (goneE h r c))) ∧ Below w.heap.size w w' := by
  go_enter Tryz.func115, Tryz.ntmps115
  go_wp2
  exact bodyPost_ret (v := .agg (eA (goneE h r c))) (by simp [results, Tryz.results115, go_sem, goneE]) rfl ⟨rfl, (((Below.refl _ _).alloc (Nat.le_refl _) _).alloc (by simp) _).alloc (by simp; omega) _⟩
theorem OwnG.base {α : Type} {e : TypeId} {sz : Nat} {f : α → List Value} {w : World} {base base' : Nat} {l : List α} {v : Value} (h : OwnG e sz f w base l v) (hb : base' ≤ base) : OwnG e sz f w base' l v := by
  obtain ⟨h1, h2⟩ := h
  refine ⟨h1, ?_⟩
  rcases h2 with h2 | ⟨g, cap, cur, hv, hg, r⟩
  · exact .inl h2
  · exact .inr ⟨g, cap, cur, hv, Nat.le_trans hb hg, r⟩
theorem below_pushG {α : Type} {e : TypeId} {sz : Nat} {f : α → List Value} {w0 w w' : World} {B base : Nat} {l : List α} {v : Value} (h : OwnG e sz f w base l v) (hb : Below B w0 w) (hB : B ≤ base) (hg : w.grownBy w' v.ownBlock) (hsz : B ≤ w.heap.size) : Below B w0 w' :=
  hb.grown hg hsz fun k hk => by have := (World.ownsRow.lt h k hk).1; omega
theorem one_row {α : Type} {sz : Nat} {f : α → List Value} (w : World) (x : α) (t : TypeId) (hf : (f x).length = sz) : GRow sz f (w.alloc (.cells (f x).toArray t)) [x] (.slice (some ⟨w.heap.size, 0, none⟩) 1 1) := by
  have h := Own.new w (f x).toArray t
  refine ⟨_, 1, w.heap.size, 0, rfl, Nat.le_refl _, by decide, fun _ => ⟨rfl, h.lt⟩, fun k i hk j u hu => ?_⟩
  cases k with
  | zero => simp at hk; subst hk; rw [h.cell]; simpa using hu
  | succ k => simp at hk
theorem getI_ok {l : List Itm} {id : ByteArray} (h : ∀ i ∈ l, i.id.size ≤ maxLen ∧ i.kd.size ≤ maxLen) : (getI l id).1.id.size ≤ maxLen ∧ (getI l id).1.kd.size ≤ maxLen := by
  unfold getI
  split
  · rename_i i hi; exact h i (List.mem_of_find?_eq_some hi)
  · exact ⟨by decide, by decide⟩
theorem run_push_en (ty : TypeId) {w : World} {base : Nat} {v : Value} {l : List En} (x : En) (h : OwnG 70 11 ec w base l v) (hn : l.length ≤ 20000) (hbase : base ≤ w.heap.size) :
    ∃ v' w', (Builtin.append_ #[45, 45] ty #[v, .slice (some ⟨w.heap.size, 0, none⟩) 1 1]).run Tryz.prog (w.alloc (.cells (eA x) 70)) = .ok v' w' ∧ OwnG 70 11 ec w' base (l ++ [x]) v' ∧ (w.alloc (.cells (eA x) 70)).grownBy w' v.ownBlock := by
  obtain ⟨j0, hj, hy0, hy1, hy2⟩ := info_parts info_en
  exact run_append_G (f := ec) (size := 11) (fun _ => rfl) ec_one 45 ty 70 j0 _ 112 Tryz.underlying45 hj hy0 hy1 hy2 rfl (by omega) (h.later ((Below.refl _ _).alloc (Nat.le_refl _) _)) (one_row w x 70 rfl) (by simp; omega) (by omega) (by rw [World.size_alloc]; omega)
structure LkS (w : World) (P : World → Prop) (c : Nat) (l : List En) (v : Value) (wr : World) : Prop where
  o : P wr
  r : OwnG 70 11 ec wr c l v
  b : Below w.heap.size w wr
theorem lk_push {w wy w9 : World} {A : Array Value} {l : List En} {x : En} {v v9 : Value} (OA : Own wy w.heap.size A 47) (RW : OwnG 70 11 ec wy (w.heap.size + 1) l v) (BEL : Below w.heap.size w wy) (hown : OwnG 70 11 ec w9 (w.heap.size + 1) (l ++ [x]) v9) (hgr : (wy.alloc (.cells (eA x) 70)).grownBy w9 v.ownBlock) :
    LkS w (fun w' => Own w' w.heap.size A 47) (w.heap.size + 1) (l ++ [x]) v9 w9 :=
  ⟨(OA.alloc _).grown hgr (own_ne RW (Nat.lt_succ_self _)), hown, below_pushG (RW.later ((Below.refl _ _).alloc (Nat.le_refl _) _)) (BEL.alloc BEL.size (.cells (eA x) 70)) (Nat.le_succ _) hgr (by rw [World.size_alloc]; have := BEL.size; omega)⟩
theorem lk_push2 {w wy w9 : World} {A B : Array Value} {T : TypeId} {l : List En} {x : En} {v v9 : Value} (OA : Own wy w.heap.size B T) (OB : Own wy (w.heap.size + 1) A 47) (RW : OwnG 70 11 ec wy (w.heap.size + 2) l v) (BEL : Below w.heap.size w wy) (hown : OwnG 70 11 ec w9 (w.heap.size + 2) (l ++ [x]) v9) (hgr : (wy.alloc (.cells (eA x) 70)).grownBy w9 v.ownBlock) :
    LkS w (fun w' => Own w' w.heap.size B T ∧ Own w' (w.heap.size + 1) A 47) (w.heap.size + 2) (l ++ [x]) v9 w9 :=
  ⟨⟨(OA.alloc _).grown hgr (own_ne RW (by omega)), (OB.alloc _).grown hgr (own_ne RW (by omega))⟩, hown, below_pushG (RW.later ((Below.refl _ _).alloc (Nat.le_refl _) _)) (BEL.alloc BEL.size (.cells (eA x) 70)) (by omega) hgr (by rw [World.size_alloc]; have := BEL.size; omega)⟩
def LkRel (w : World) (P : World → Prop) (c : Nat) (L : Nat → List En) (len : Nat) (v i : Value) (wr : World) : Prop :=
  ∃ k : Nat, k ≤ len ∧ i = .int .i64 k ∧ Hid (LkS w P c (L k) v wr)
end Go.Proofs.YthbjgfennclidaaGreat
/- The code's again of layer 9: a state in new memory. Walked. -/
namespace Go.Proofs.YthbjgfennclidaaGreat
set_option linter.unusedVariables false
set_option linter.unusedSimpArgs false
set_option maxRecDepth 100000
open Go.RowKit
theorem ownsRow_agree {w w' : World} {base size n : Nat} {e : TypeId} {v : Value} {xs : List Value} (h : w.ownsRow base e size v n xs) (hb : ∀ b, base ≤ b → b < w.heap.size → w'.heap[b]? = w.heap[b]?) : w'.ownsRow base e size v n xs := by
  obtain ⟨h1, h2⟩ := h
  refine ⟨h1, ?_⟩
  rcases h2 with h2 | ⟨g, cap, cur, hv, hg, hh, r⟩
  · exact .inl h2
  · have hlt : g < w.heap.size := by
      rcases Nat.lt_or_ge g w.heap.size with hlt | hge
      · exact hlt
      · rw [Array.getElem?_eq_none hge] at hh; cases hh
    exact .inr ⟨g, cap, cur, hv, hg, (hb g hg hlt).trans hh, r⟩
theorem frFresh_of {w : World} {B B' : Nat} {l : List Fr} {U : Nat → Value} {v : Value} (h : w.ownsRow B 125 9 v l.length (frCs U 0 l)) (hi : ∀ i f, l[i]? = some f → OwnT w B' f.ids (U i)) (hB : 0 < l.length → B ≤ B') (hok : ∀ f ∈ l, ∀ s ∈ f.ids, s.size ≤ maxLen) : FrFresh w B l v := by
  intro w' h1 h2
  refine rowFr (ownsRow_agree h h1) fun k f hf => ?_
  have hB' := hB (by have := posA hf; omega)
  exact (OwnT.tx (ownsRow_agree (hi k f hf) fun b hb hlt => h1 b (by omega) hlt) (hok f (List.mem_of_getElem? hf)))
theorem below_both {B : Nat} {a b : World} (h : Below B a b) {p : Addr} (hp : p.block < B) (hB : B ≤ a.heap.size) (u : Value) : Below B (a.setCell p u) (b.setCell p u) := by
  refine ⟨h.os, h.tape, h.output, by simpa [World.setCell] using h.size, fun k hk => ?_⟩
  rcases Decidable.em (k = p.block) with e | e
  · subst e
    have hb := h.block _ hk
    simp only [World.setCell, Array.getElem?_modify, if_true, hb]
  · rw [Below.heap_setCell _ _ _ _ e, Below.heap_setCell _ _ _ _ e]
    exact h.block k hk
theorem FrW.fr_ok {w : World} {l : List Fr} {v : Value} (h : FrW w l v) : ∀ f ∈ l, ∀ s ∈ f.ids, s.size ≤ maxLen := by
  obtain ⟨U, oa, cap, b, o, _, h⟩ := h
  intro f hf s hs
  obtain ⟨k, hk⟩ := List.getElem?_of_mem hf
  exact (h.ids k f hk).ok s hs
structure AgX (w : World) (s : St) (v3 v4 v5 kv : Value) (X : World) : Prop where
  a : Own X w.heap.size (stA s v3 v4 v5 kv) 52
  t : Own X (w.heap.size + 1) stZ.toArray 52
  b : Below w.heap.size w X
  f : LPF X (w.heap.size + 2) s.f v3
  st : RowF X (w.heap.size + 2) s.store v4
  ou : RowF X (w.heap.size + 2) s.out v5
theorem AgX.later {w X X' : World} {s : St} {v3 v4 v5 kv : Value} (h : AgX w s v3 v4 v5 kv X) (hb : Below X.heap.size X X') : AgX w s v3 v4 v5 kv X' :=
  ⟨h.a.later hb, h.t.later hb, h.b.trans (hb.mono h.b.size), h.f.later hb, h.st.later hb, h.ou.later hb⟩
theorem LPF.setLow {w : World} {B b q : Nat} {p : Pr} {v : Value} (h : LPF w B p v) (hb : b < B) (u : Value) : LPF (w.setCell ⟨b, q, none⟩ u) B p v := h.setsAt hb [u] q
theorem AgX.setK {w X : World} {s : St} {v3 v4 v5 kv : Value} (h : AgX w s v3 v4 v5 kv X) (kv' : Value) : AgX w s v3 v4 v5 kv' (X.setCell ⟨w.heap.size, 16, none⟩ kv') :=
  ⟨by have := h.a.set 16 kv'; exact this, h.t.setFar _ _ (by show w.heap.size + 1 ≠ w.heap.size; omega), h.b.setCell (p := ⟨w.heap.size, 16, none⟩) (Nat.le_refl _) _, h.f.setLow (by omega) _, h.st.set (by omega) _, h.ou.set (by omega) _⟩
theorem AgX.fin {w wr : World} {s : St} {v3 v4 v5 kv : Value} (h : AgX w s v3 v4 v5 kv wr) (hk : FrFresh wr (w.heap.size + 2) s.k.l kv) (vs : List Value) (hv : vs = (stA s v3 v4 v5 kv).toList) :
    Own (wr.setCells (w.heap.size + 1) 0 vs) (w.heap.size + 1) vs.toArray 52 ∧ LPF (wr.setCells (w.heap.size + 1) 0 vs) w.heap.size s.f v3 ∧ RowF (wr.setCells (w.heap.size + 1) 0 vs) w.heap.size s.store v4 ∧ RowF (wr.setCells (w.heap.size + 1) 0 vs) w.heap.size s.out v5 ∧ FrFresh (wr.setCells (w.heap.size + 1) 0 vs) w.heap.size s.k.l kv ∧ Below w.heap.size w (wr.setCells (w.heap.size + 1) 0 vs) := by
  have hb : w.heap.size + 1 < w.heap.size + 2 := by omega
  exact ⟨h.t.sets vs (by rw [hv]; rfl), (h.f.setsAt hb vs 0).mono' (by omega), (h.st.sets hb vs 0).mono (by omega), (h.ou.sets hb vs 0).mono (by omega), (hk.sets hb vs 0).mono (by omega), below_sets (b := w.heap.size + 1) (by omega) vs 0 h.b⟩
theorem ids_le_flat {l : List Fr} {f : Fr} (h : f ∈ l) : f.ids.length ≤ (flatI l).length := by
  induction l with
  | nil => cases h
  | cons a l ih =>
    simp only [flatI, List.flatMap_cons, List.length_append]
    rcases List.mem_cons.1 h with e | h
    · subst e; omega
    · have := ih h; simp only [flatI] at this; omega
structure AgS (X : World) (B : Nat) (l : List Fr) (U : Nat → Value) (rv : Value) (g k : Nat) (U' : Nat → Value) (wr : World) : Prop where
  e : X.heap.size = B
  b : Below B X wr
  row : wr.ownsRow B 125 9 rv l.length (frCs U' 0 l)
  done : ∀ i f, i < k → l[i]? = some f → OwnT wr (g + 1) f.ids (U' i)
  left : ∀ i, k ≤ i → U' i = U i
theorem fr_at {w : World} {B g len c k : Nat} {l : List Fr} {U : Nat → Value} {f : Fr} (h : w.ownsRow B 125 9 (.slice (some ⟨g, 0, none⟩) len c) len (frCs U 0 l)) (hlen : l.length = len) (hf : l[k]? = some f) : w.cell? ⟨g, k * 9, none⟩ = some (U k) := by
  have hk := posA hf
  have e := frCs_get U 0 l k f hf 0 (by omega)
  rw [Nat.add_zero, Nat.zero_add] at e
  rw [h.cellAt (k * 9) (by omega), e]
  rfl
def AgRel (X : World) (B : Nat) (l : List Fr) (len : Nat) (U : Nat → Value) (rv : Value) (g : Nat) (i : Value) (wr : World) : Prop :=
  ∃ (k : Nat) (U' : Nat → Value), k ≤ len ∧ i = .int .i64 k ∧ Hid (AgS X B l U rv g k U' wr)
theorem AgS.step {X wr w8 : World} {B : Nat} {l : List Fr} {U U' : Nat → Value} {len cap g k : Nat} {f : Fr} {u8 : Value} {C : Array Value} {T : TypeId} (h : AgS X B l U (.slice (some ⟨g, 0, none⟩) len cap) g k U' wr) (hlen : l.length = len) (hf : l[k]? = some f)
    (hL : OwnT w8 (wr.alloc (.cells C T)).drew.heap.size f.ids u8) (hb : Below (wr.alloc (.cells C T)).drew.heap.size (wr.alloc (.cells C T)).drew w8) : AgS X B l U (.slice (some ⟨g, 0, none⟩) len cap) g (k + 1) (updU U' k u8) (w8.setCell ⟨g, k * 9, none⟩ u8) := by
  have hk := posA hf
  have hb' : Below wr.heap.size wr w8 := (((Below.refl wr.heap.size wr).alloc (Nat.le_refl _) _).drew).trans (hb.mono (by simp))
  have hg := h.row.lt g rfl
  have hs : (wr.alloc (.cells C T)).drew.heap.size = wr.heap.size + 1 := by simp
  subst hlen
  refine ⟨h.e, ?_, ?_, ?_, ?_⟩
  · exact (h.b.trans (hb'.mono (by have := h.b.size; have := h.e; omega))).setCell (p := ⟨g, k * 9, none⟩) hg.1 _
  · have e := frCs_set U' l 0 k f f u8 hf rfl
    rw [Nat.zero_add, set_same hf] at e
    rw [e]
    exact row_set (ownsRow_below h.row hb') u8 (by omega)
  · intro i p hi hp
    rcases Decidable.em (i = k) with e | e
    · subst e
      rw [hf] at hp; cases hp
      rw [updU_same]
      exact ownsRow_setCell_below (a := ⟨g, i * 9, none⟩) ((OwnT.mono hL (by rw [hs]; omega : g + 1 ≤ _))) (by show g < g + 1; omega) _
    · rw [updU_far _ _ e]
      exact ownsRow_setCell_below (a := ⟨g, k * 9, none⟩) (OwnT.later (h.done i p (by omega) hp) hb') (by show g < g + 1; omega) _
  · intro i hi
    rw [updU_far _ _ (by omega)]
    exact h.left i (by omega)
end Go.Proofs.YthbjgfennclidaaGreat
/- slices.Clone of entries; slices.Chunk of entries: what its function hands to each round. Walked. -/
namespace Go.Proofs.YthbjgfennclidaaGreat
set_option linter.unusedVariables false
set_option linter.unusedSimpArgs false
set_option maxRecDepth 100000
open Go Go.RowKit Go.Shelf
set_option maxRecDepth 100000 in
set_option maxHeartbeats 4000000 in
theorem cloneE_walk (oa : Option Addr) (m c : Nat) (news : List Value) (w : World) (hl : news.length = m * 11) (hnews : 0 < m → ∃ b o, oa = some ⟨b, o, none⟩ ∧ b < w.heap.size ∧ ∀ j u, news[j]? = some u → w.cell? ⟨b, o + j, none⟩ = some u) (h1 : ∀ u ∈ news, u.oneCell' = true) (hm : m ≤ 30000) (hc : c ≤ maxLen) :
    Calls Tryz.prog 75 #[.slice oa m c] w fun e w' => ∃ v', e = .returned v' ∧ w'.ownsRow w.heap.size 70 11 v' m news ∧ Below w.heap.size w w' := by
  obtain ⟨j0, hj, hy0, hy1, hy2⟩ := info_parts info_en
  cases oa with
  | none =>
    have hm0 : m = 0 := by
      rcases Nat.eq_zero_or_pos m with h | h
      · exact h
      · obtain ⟨_, _, h2, _⟩ := hnews h; cases h2
    subst hm0
    have hn : news = [] := List.length_eq_zero_iff.1 (by omega)
    subst hn
    clear hnews h1 hl
    have qT : ∀ w : World, (binOp .eql 45 (.slice none 0 c) (.slice none 0 0)).run Tryz.prog w = .ok (.bool true) w := fun w => Lib.run_eql_slice_nil w _ _ none 0 c 0 0 Tryz.underlying45
    go_enter Tryz.func75, Tryz.ntmps75
    go_wp2_with fail
    go_ret
    exact ⟨_, rfl, World.ownsRow_nil _ _ _ _, Below.refl _ _⟩
  | some a =>
    have B0 : Below w.heap.size w (w.alloc (.cells #[] 70)) := (Below.refl _ _).alloc (Nat.le_refl _) _
    have HA := Lib.hid (fun ty => run_append_src 45 ty 70 j0 _ 11 112 Tryz.underlying45 hj hy0 hy1 hy2 rfl (by omega) (own_empty w 70 11) (some a) m c news hl (fun h => by
      obtain ⟨b, o, e, hb, hn⟩ := hnews h
      exact ⟨b, o, e, fun j u hu => (B0.cell (p := ⟨b, o + j, none⟩) hb).trans (hn j u hu)⟩) h1 (by omega) (by omega) B0.size)
    have HB0 := Lib.hid B0
    clear hnews h1 hl B0 hj hy0 hy1 hy2
    have qT : ∀ w : World, (binOp .eql 45 (.slice (some a) m c) (.slice none 0 0)).run Tryz.prog w = .ok (.bool false) w := fun w => Lib.run_eql_slice_nil w _ _ (some a) m c 0 0 Tryz.underlying45
    go_enter Tryz.func75, Tryz.ntmps75
    go_wp2_with (at_builtin; obtain ⟨v', w', hrun, hown, hgr⟩ := HA.out _; refine Lib.wpList_append_run _ rfl _ _ _ _ rfl _ _ rfl rfl _ _ hrun ?_)
    go_ret
    exact ⟨_, rfl, by simpa using hown, HB0.out.grown hgr HB0.out.size (fun k hk => by simp [Value.ownBlock] at hk; omega)⟩
theorem cloneE_calls (l : List En) (v : Value) (w : World) (hR : GRow 11 ec w l v) (hm : l.length ≤ 30000) :
    Calls Tryz.prog 75 #[v] w fun e w' => ∃ v', e = .returned v' ∧ OwnG 70 11 ec w' w.heap.size l v' ∧ Below w.heap.size w w' := by
  obtain ⟨oa, cap, b, o, rfl, h⟩ := hR
  exact cloneE_walk oa l.length cap (gC ec l) w (gC_len (f := ec) (sz := 11) (fun _ => rfl) l) (fun h0 => ⟨b, o, (h.at0 h0).1, (h.at0 h0).2, gat_news (f := ec) (sz := 11) (fun _ => rfl) h (by omega)⟩) (gC_one ec_one l) hm h.max
/-! ### slices.Chunk -/
def chV (b o len : Nat) (j : Nat) : Value := .slice (some ⟨b, o + 4 * j * 11, none⟩) (min (4 * j + 4) len - 4 * j) (min (4 * j + 4) len - 4 * j)
abbrev ChJ (len : Nat) := { j : Nat // 4 * j < len }
def chL (len : Nat) (k : Nat) (hk : ∀ j, j < k → 4 * j < len) : List (ChJ len) := List.ofFn (n := k) fun i => ⟨i.1, hk i.1 i.2⟩
theorem chL_len (len k : Nat) (hk : ∀ j, j < k → 4 * j < len) : (chL len k hk).length = k := by simp [chL]
theorem chL_succ (len k : Nat) (hk : ∀ j, j < k + 1 → 4 * j < len) : chL len (k + 1) hk = chL len k (fun j h => hk j (by omega)) ++ [⟨k, hk k (by omega)⟩] := by
  unfold chL
  rw [List.ofFn_succ_last]
  rfl
theorem chunk_calls (oa : Option Addr) (m c : Nat) (w : World) : Calls Tryz.prog 111 #[.slice oa m c, .int .i64 4] w fun e w' =>
    e = .returned (.func (.func 165) #[] #[.pointer (some ⟨w.heap.size, 0, none⟩), .pointer (some ⟨w.heap.size + 1, 0, none⟩)]) ∧ w' = (w.alloc (.cells #[.slice oa m c] 45)).alloc (.cells #[.int .i64 4] 3) := by
  go_enter Tryz.func111, Tryz.ntmps111
  go_wp2_with fail
  go_ret
  simp
theorem w64_four (t : Nat) (h : t ≤ 30000) : wrap64 ((t : Int) + 4) = ((t + 4 : Nat) : Int) := by
  unfold wrap64; omega
theorem intOf_int (k : IntKind) (x : Int) : intOf (Value.int k x) = x := rfl
theorem ch_meas {t len : Nat} (h : t < len) (h2 : len ≤ 30000) : len + 4 - (intOf (Value.int IntKind.i64 (wrap64 ((t : Int) + 4)))).toNat < len + 4 - (intOf (Value.int IntKind.i64 (t : Int))).toNat := by
  rw [intOf_int, intOf_int, w64_four t (by omega)]; omega
theorem ch_next {t k : Nat} (h : t = 4 * k) : t + 4 = 4 * (k + 1) := by omega
theorem ch_all {k len : Nat} (hk : ∀ j, j < k → 4 * j < len) (h : 4 * k < len) : ∀ j, j < k + 1 → 4 * j < len := fun j hj => by
  rcases Nat.lt_succ_iff_lt_or_eq.1 hj with h' | rfl
  · exact hk j h'
  · exact h
theorem grown_drew (w : World) (row : Option Nat) : w.grownBy w.drew row := ⟨rfl, rfl, rfl, Nat.le_refl _, fun _ _ _ => rfl⟩
attribute [local go_sem] Oper.semAt_some
set_option maxRecDepth 100000 in
set_option maxHeartbeats 4000000 in
theorem chunk1_in (W0 : World) (n : Nat) (hn : 1 ≤ n) (l Bs Bn b o len cap : Nat) (T : Nat → Prop) (J Jx : List (ChJ len) → World → Prop) (hsm : len ≤ 30000) (hlen : len ≤ cap) (hcap : cap ≤ maxLen) (hAb : AbidesFrom W0.heap.size J) (hBsn : ¬ T Bs) (hBnn : ¬ T Bn) 
    (hY : ∀ pre (x : ChJ len) W, J pre W → pre.length < len → YieldAt Fence.wide (n - 1) Tryz.prog l #[chV b o len x.1] W fun e W' =>
      (e = .returned (.bool true) ∧ J (pre ++ [x]) W' ∧ But T W W') ∨ (e = .returned (.bool false) ∧ Jx (pre ++ [x]) W'))
    (W : World) (hBs : W.cell? ⟨Bs, 0, none⟩ = some (.slice (some ⟨b, o, none⟩) len cap)) (hBn : W.cell? ⟨Bn, 0, none⟩ = some (.int .i64 4)) (h0 : J [] W) :
    CallsIn Fence.wide n Tryz.prog 165 #[.func (.yield l) #[] #[], .pointer (some ⟨Bs, 0, none⟩), .pointer (some ⟨Bn, 0, none⟩)] W fun e W' => (∃ v, e = .returned v) ∧
      ((∃ ys, (∃ k hk, ys = chL len k hk ∧ len ≤ 4 * k) ∧ J ys W') ∨ (∃ pre, (∃ k hk, pre = chL len k hk) ∧ Jx pre W')) := by
  have HSM := Lib.hid hsm
  clear hsm
  refine callsIn_of_wp Tryz.func165 rfl trivial ?_ rfl
  simp only [Tryz.ntmps165, List.size_toArray, List.length_cons, List.length_nil, Nat.reduceAdd, Nat.reduceSub, Array.replicate_succ, Array.replicate_zero, List.push_toArray, List.append_toArray, List.nil_append, List.cons_append]
  gi_wp2
  gi_loopw [4] (fun i wr => ∃ (k t : Nat) (hk : ∀ j, j < k → 4 * j < len), Hid (t = 4 * k) ∧ i = .int .i64 (t : Int) ∧ J (chL len k hk) wr ∧ But T W wr)
    (fun i _ => len + 4 - (intOf i).toNat)
  case atStart => exact ⟨0, 0, fun j h => absurd h (Nat.not_lt_zero j), Lib.hid rfl, rfl, h0, But.refl _⟩
  case round =>
    obtain ⟨k, t, hk, HT, rfl, hJs, hnx⟩ := hrel
    have hB9 : But T W wr.drew := ⟨hnx.size, hnx.blk⟩
    have zBs := World.block_lt_of_cell? W _ hBs
    have zBn := World.block_lt_of_cell? W _ hBn
    have hJs0 := hJs
    replace hJs : J (chL len k hk) wr.drew := hAb _ _ _ none hJs (grown_drew _ _) (fun r e => by cases e)
    have cs0 := (hnx.cell zBs hBsn).trans hBs
    have cs := (hB9.cell zBs hBsn).trans hBs
    have cn := (hB9.cell zBn hBnn).trans hBn
    by_cases hlt : t < len
    · have hlk : 4 * k < len := by have := HT.out; omega
      obtain ⟨fn, tmps, assign, body, hy, hR⟩ := hY _ ⟨k, hlk⟩ wr.drew hJs (by rw [chL_len]; omega)
      obtain ⟨en, hen⟩ : ∃ en, en = min (t + 4) len := ⟨_, rfl⟩
      have hy' : Sem.run Tryz.prog (Instr.yield l #[Value.slice (some { block := b, off := o + t * 11 }) (en - t) (en - t)]) wr.drew = Result.ok (Next.round l fn tmps assign body) wr.drew := by
        have := hy
        simp only [chV, ← HT.out, ← hen] at this
        exact this
      clear hy
      have hle : en ≤ len := by omega
      have hte : t ≤ en := by omega
      have hmin : min (4 : Int) ((len - t : Nat) : Int) = ((en - t : Nat) : Int) := by omega
      have hsum : (t : Int) + ((en - t : Nat) : Int) = (en : Int) := by omega
      have hcm : cap ≤ 9223372036854775807 := by have := hcap; unfold maxLen at this; omega
      have hw1 : IntKind.i64.wrap ((t : Int) + ((en - t : Nat) : Int)) = (en : Int) := by rw [hsum, IntKind.wrap_i64]; omega
      have hw2 : IntKind.i64.wrap (en : Int) = (en : Int) := by rw [IntKind.wrap_i64]; omega
      have hn1 : t + (en - t) = en := by omega
      have hct : ¬ cap = t := by omega
      have q1 : (0 : Int) ≤ (t : Int) := by omega
      have q2 : (t : Int) ≤ (cap : Int) := by omega
      have q2' : (t : Int) ≤ (len : Int) := by omega
      clear hY hAb
      replace hen := Lib.hid hen
      gi_wp2
      refine wpIn_wide.2 ?_
      refine region_still_tail 6 (by kernel_rfl) (by kernel_rfl) ?_
      simp only [List.take_succ_cons, List.take_zero, List.drop_succ_cons, List.drop_zero]
      repeat (first | still_step)
      refine wpStill_nil ?_
      go_wp2_with fail
      have q4 : (0 : Int) ≤ (en : Int) := by omega
      have q5 : (en : Int) ≤ (cap : Int) := by omega
      have q6 : (t : Int) ≤ (en : Int) := by omega
      gi_wp2
      refine hR.mono ?_
      rintro e W3 (⟨rfl, hJ3, hk3⟩ | ⟨rfl, hJx3⟩)
      · have cn3 := (hk3.cell (World.block_lt_of_cell? _ _ cn) hBnn).trans cn
        gi_wp2
        go_roundw
        case rel =>
          refine ⟨k + 1, t + 4, ch_all hk hlk, Lib.hid (ch_next HT.out), ?_, by rw [chL_succ]; exact hJ3, hB9.trans hk3⟩
          rw [w64_four t (Nat.le_trans (Nat.le_of_lt hlt) HSM.out)]
        case measure => exact ch_meas hlt HSM.out
      · gi_wp2
        refine bodyPost_ret (results_none rfl _ _ _) rfl ?_
        exact ⟨⟨_, rfl⟩, .inr ⟨_, ⟨k + 1, ch_all hk hlk, (chL_succ _ _ _).symm⟩, hJx3⟩⟩
    · have hkl : len ≤ 4 * k := by have := HT.out; omega
      gi_wp2
      go_end0
      first | exact ⟨⟨_, rfl⟩, .inl ⟨_, ⟨k, hk, rfl, hkl⟩, hJs0⟩⟩ | exact ⟨⟨_, rfl⟩, .inl ⟨_, ⟨k, ⟨hk, rfl⟩, hkl⟩, hJs0⟩⟩
set_option maxRecDepth 100000 in
set_option maxHeartbeats 1000000 in
theorem chunk1_nil_in (n : Nat) (l Bs Bn : Nat) (oa : Option Addr) (cap : Nat) (J : List (ChJ 0) → World → Prop) (W : World) (hBs : W.cell? ⟨Bs, 0, none⟩ = some (.slice oa 0 cap)) (h0 : J [] W) :
    CallsIn Fence.wide n Tryz.prog 165 #[.func (.yield l) #[] #[], .pointer (some ⟨Bs, 0, none⟩), .pointer (some ⟨Bn, 0, none⟩)] W fun e W' => (∃ v, e = .returned v) ∧ J [] W' := by
  refine callsIn_of_wp Tryz.func165 rfl trivial ?_ rfl
  simp only [Tryz.ntmps165, List.size_toArray, List.length_cons, List.length_nil, Nat.reduceAdd, Nat.reduceSub, Array.replicate_succ, Array.replicate_zero, List.push_toArray, List.append_toArray, List.nil_append, List.cons_append]
  gi_wp2
  gi_loopw [4] (fun i wr => i = .int .i64 0 ∧ wr.cell? ⟨Bs, 0, none⟩ = some (.slice oa 0 cap) ∧ J [] wr) (fun _ _ => 0)
  case atStart => exact ⟨rfl, hBs, h0⟩
  case round =>
    obtain ⟨rfl, cs, hJs⟩ := hrel
    gi_wp2
    go_end0
    exact ⟨⟨_, rfl⟩, hJs⟩
theorem chunk_stops (n : Nat) (hn : 1 ≤ n) (Bs Bn len cap : Nat) (T : Nat → Prop) (oa : Option Addr) (b o : Nat) (hsm : len ≤ 30000) (hlen : len ≤ cap) (hcap : cap ≤ maxLen) (hoa : 0 < len → oa = some ⟨b, o, none⟩) (w : World) (hBs : ¬ T Bs) (hBn : ¬ T Bn)
    (cs : w.cell? ⟨Bs, 0, none⟩ = some (.slice oa len cap)) (cn : w.cell? ⟨Bn, 0, none⟩ = some (.int .i64 4)) :
    SeqStopsK Fence.wide n Tryz.prog 165 #[.pointer (some ⟨Bs, 0, none⟩), .pointer (some ⟨Bn, 0, none⟩)] (fun x : ChJ len => #[chV b o len x.1]) (But T)
      (fun ys => ∃ k hk, ys = chL len k hk ∧ len ≤ 4 * k) (fun pre => ∃ k hk, pre = chL len k hk) len w := fun l J Jx W hW hJ _ hY h0 => by
  have cs' := (hW.cell (p := ⟨Bs, 0, none⟩) (World.block_lt_of_cell? w _ cs)).trans cs
  have cn' := (hW.cell (p := ⟨Bn, 0, none⟩) (World.block_lt_of_cell? w _ cn)).trans cn
  rcases Nat.eq_zero_or_pos len with rfl | hp
  · exact (chunk1_nil_in n l Bs Bn oa cap J W cs' h0).mono fun e W' ⟨he, hj⟩ => ⟨he, .inl ⟨[], ⟨0, fun j h => absurd h (Nat.not_lt_zero j), rfl, Nat.zero_le _⟩, hj⟩⟩
  · obtain rfl := hoa hp
    exact chunk1_in W n hn l Bs Bn b o len cap T J Jx hsm hlen hcap hJ hBs hBn hY W cs' cn' h0
end Go.Proofs.YthbjgfennclidaaGreat
