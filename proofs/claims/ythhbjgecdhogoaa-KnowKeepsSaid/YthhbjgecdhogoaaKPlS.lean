/- What stands in memory while the code makes it plain. No walk. -/
import Derived.Test.YthhbjgecdhogoaaRefPlainK
import Derived.Test.YthhbjgecdhogoaaKMap
namespace Go.Proofs.Ythhbjgecdhogoaa
set_option linter.unusedVariables false
set_option linter.unusedSimpArgs false
open Go.RowKit Go.Maps

structure KP (w0 : World) (base bm bp nc : Nat) (X Z : Array Value) (ids : List ByteArray) (raw : ByteArray → Nat → Int) (names : List ByteArray) (nv : Value) (vs : List (Nat → Int)) (o : List Fr) (U : Nat → Value) (Lv : Value) (wr : World) : Prop where
  o1 : Own wr w0.heap.size X 26
  o2 : Own wr (w0.heap.size + 1) Z 26
  cnt : Cnt wr bm nc ids raw
  pcs : Pcs wr bp vs
  nm : OwnT wr w0.heap.size names nv
  nb : ∀ b, nv.ownBlock = some b → b < base
  pk : PK wr base o U Lv
  bel : Below w0.heap.size w0 wr
  hb : w0.heap.size + 1 < bp
  hm : bm < base ∧ bm ≠ bp
  hp : bp < base
  hw : base ≤ wr.heap.size
section
variable {w0 wr w' : World} {base bm bp nc : Nat} {X Z : Array Value} {ids : List ByteArray} {raw : ByteArray → Nat → Int} {names : List ByteArray} {nv : Value} {vs : List (Nat → Int)} {o : List Fr} {U : Nat → Value} {Lv : Value}
/-- What lies low stays, where low blocks stay. -/
theorem KP.low (h : KP w0 base bm bp nc X Z ids raw names nv vs o U Lv wr) (hs : ∀ b, b < base → w'.heap[b]? = wr.heap[b]?) : Own w' w0.heap.size X 26 ∧ Own w' (w0.heap.size + 1) Z 26 ∧ Cnt w' bm nc ids raw ∧ Pcs w' bp vs ∧ OwnT w' w0.heap.size names nv := by
  have h1 := h.hb; have h2 := h.hm; have h3 := h.hp
  refine ⟨⟨(hs _ (by omega)).trans h.o1.blk⟩, ⟨(hs _ (by omega)).trans h.o2.blk⟩, ?_, (hs _ h3).trans h.pcs, ?_⟩
  · obtain ⟨D, ⟨es, clock, q1, F, q2, q3⟩, r⟩ := h.cnt
    exact ⟨D, ⟨es, clock, (hs _ h2.1).trans q1, F, q2, q3⟩, r⟩
  · refine ⟨h.nm.1, ?_⟩
    rcases h.nm.2 with q | ⟨g, cap, cur, hv, hg, hh, r⟩
    · exact .inl q
    · exact .inr ⟨g, cap, cur, hv, hg, (hs g (h.nb g (by rw [hv]; rfl))).trans hh, r⟩
theorem KP.later (h : KP w0 base bm bp nc X Z ids raw names nv vs o U Lv wr) (hb : Below wr.heap.size wr w') : KP w0 base bm bp nc X Z ids raw names nv vs o U Lv w' :=
  have hl := h.low (w' := w') fun b hlt => hb.block b (Nat.lt_of_lt_of_le hlt h.hw)
  ⟨hl.1, hl.2.1, hl.2.2.1, hl.2.2.2.1, hl.2.2.2.2, h.nb, h.pk.later hb, h.bel.trans (hb.mono h.bel.size), h.hb, h.hm, h.hp, Nat.le_trans h.hw hb.size⟩
theorem KP.alloc (h : KP w0 base bm bp nc X Z ids raw names nv vs o U Lv wr) (ob : Obj) : KP w0 base bm bp nc X Z ids raw names nv vs o U Lv (wr.alloc ob) := h.later ((Below.refl _ _).alloc (Nat.le_refl _) _)
theorem KP.put (h : KP w0 base bm bp nc X Z ids raw names nv vs o U Lv wr) {vs' : List (Nat → Int)} (hp : Pcs w' bp vs') (hg : wr.grownBy w' (some bp)) : KP w0 base bm bp nc X Z ids raw names nv vs' o U Lv w' := by
  have h1 := h.hb; have h2 := h.hm; have h3 := h.hp; have h4 := h.hw; have h5 := h.bel.size
  have hs : ∀ b, b < wr.heap.size → b ≠ bp → w'.heap[b]? = wr.heap[b]? := fun b hb hne => hg.block b hb (by simp [hne])
  refine ⟨⟨(hs _ (by omega) (by omega)).trans h.o1.blk⟩, ⟨(hs _ (by omega) (by omega)).trans h.o2.blk⟩, ?_, hp, ?_, h.nb, h.pk.kept fun b hb hlt => hs b hlt (by omega), h.bel.grown hg (by omega) (fun k hk => by cases hk; omega), h.hb, h.hm, h.hp, Nat.le_trans h.hw hg.size⟩
  · obtain ⟨D, ⟨es, clock, q1, F, q2, q3⟩, r⟩ := h.cnt
    exact ⟨D, ⟨es, clock, (hs _ (by omega) h2.2).trans q1, F, q2, q3⟩, r⟩
  · refine World.ownsRow.kept h.nm hg ?_
    rcases h.nm.2 with ⟨rfl, _⟩ | ⟨g, cap, cur, rfl, _, hh, _⟩
    · exact .inl rfl
    · right
      intro e
      simp only [Value.ownBlock, Option.some.injEq] at e
      subst e
      have hq := h.pcs
      unfold Pcs at hq
      rw [hh] at hq
      cases hq
theorem KP.grow (h : KP w0 base bm bp nc X Z ids raw names nv vs o U Lv wr) {row : Option Nat} (hg : wr.grownBy w' row) (hr : ∀ k, row = some k → base ≤ k) {o' : List Fr} {U' : Nat → Value} {Lv' : Value} (hk : PK w' base o' U' Lv') : KP w0 base bm bp nc X Z ids raw names nv vs o' U' Lv' w' :=
  have hl := h.low (w' := w') fun b hlt => hg.block b (Nat.lt_of_lt_of_le hlt h.hw) (fun e => by have := hr b e.symm; omega)
  ⟨hl.1, hl.2.1, hl.2.2.1, hl.2.2.2.1, hl.2.2.2.2, h.nb, hk, h.bel.grown hg h.bel.size (fun k hk => by have := hr k hk; have := h.hb; have := h.hp; omega), h.hb, h.hm, h.hp, Nat.le_trans h.hw hg.size⟩
theorem KP.addF (h : KP w0 base bm bp nc X Z ids raw names nv vs o U Lv wr) (v : Nat → Int) {g n cap : Nat} (hn : n = o.length + 1)
    (hown : w'.ownsRow base 40 9 (.slice (some ⟨g, 0, none⟩) n cap) n (frCs U 0 o ++ fc ⟨[], v⟩ (.slice none 0 0))) (hgrow : wr.grownBy w' Lv.ownBlock) :
    KP w0 base bm bp nc X Z ids raw names nv vs (o ++ [⟨[], v⟩]) (updU U o.length (.slice none 0 0)) (.slice (some ⟨g, 0, none⟩) n cap) w' :=
  h.grow hgrow (fun k hk => (World.ownsRow.lt h.pk.row k hk).1) (h.pk.pushF v hn hown hgrow)
theorem KP.addT {gl nl cl : Nat} (h : KP w0 base bm bp nc X Z ids raw names nv vs o U (.slice (some ⟨gl, 0, none⟩) nl cl) wr) {a : Nat} {f : Fr} (hf : o[a]? = some f) (s : ByteArray) {g n cap : Nat} (hn : n = f.ids.length + 1)
    (hown : w'.ownsRow base 9 1 (.slice (some ⟨g, 0, none⟩) n cap) n (txC f.ids ++ [.string s])) (hgrow : wr.grownBy w' (U a).ownBlock) (hat : (U a).ownBlock = some g ∨ g = wr.heap.size) :
    KP w0 base bm bp nc X Z ids raw names nv vs (o.set a ⟨f.ids ++ [s], f.v⟩) (updU U a (.slice (some ⟨g, 0, none⟩) n cap)) (.slice (some ⟨gl, 0, none⟩) nl cl) (w'.setCell ⟨gl, a * 9, none⟩ (.slice (some ⟨g, 0, none⟩) n cap)) := by
  have hu := h.pk.ids a f hf
  have hgl : base ≤ gl := (World.ownsRow.lt h.pk.row gl rfl).1
  have hr : ∀ k, (U a).ownBlock = some k → base ≤ k := fun k hk => (World.ownsRow.lt hu k hk).1
  have hl := h.low (w' := w'.setCell ⟨gl, a * 9, none⟩ (.slice (some ⟨g, 0, none⟩) n cap)) fun b hlt => (Below.heap_setCell _ _ _ _ (by show b ≠ gl; omega)).trans (hgrow.block b (Nat.lt_of_lt_of_le hlt h.hw) (fun e => by have := hr b e.symm; omega))
  have h1 := h.hb; have h3 := h.hp; have h4 := hgrow.size; have h5 := h.hw
  exact ⟨hl.1, hl.2.1, hl.2.2.1, hl.2.2.2.1, hl.2.2.2.2, h.nb, h.pk.pushT hf s hn hown hgrow hat, (h.bel.grown hgrow h.bel.size (fun k hk => by have := hr k hk; omega)).setCell (by show w0.heap.size ≤ gl; omega) _, h.hb, h.hm, h.hp, by simp [World.setCell]; omega⟩
theorem kp9 (h : KP w0 base bm bp nc X Z ids raw names nv vs o U Lv wr) (hok : ∀ f ∈ o, ∀ s ∈ f.ids, s.size ≤ maxLen) (c0 c1 c2 c3 c4 c5 c6 c7 c8 : Value) : FrFresh (st9 wr (w0.heap.size + 1) c0 c1 c2 c3 c4 c5 c6 c7 c8) w0.heap.size o Lv := by
  have hb : ∀ q, ((⟨w0.heap.size + 1, q, none⟩ : Addr)).block < base := fun q => by have := h.hb; have := h.hp; show w0.heap.size + 1 < base; omega
  exact ((((((((((h.pk.setLow (hb 0) c0).setLow (hb 1) c1).setLow (hb 2) c2).setLow (hb 3) c3).setLow (hb 4) c4).setLow (hb 5) c5).setLow (hb 6) c6).setLow (hb 7) c7).setLow (hb 8) c8).fresh (by have := h.hb; have := h.hp; omega) hok)
end

/-! ### What the pieces' map tells -/
theorem grp_pcs_hit {o : List Fr} {v : Nat → Int} {a : Nat} {f : Fr} (hf : o[a]? = some f) (hn : ∀ j g, j < a → o[j]? = some g → eqV g.v v = false) (he : eqV f.v v = true) :
    (∀ k B, k < a → (o.map (·.v))[k]? = some B → eqV B v = false) ∧ ∃ B, (o.map (·.v))[a]? = some B ∧ eqV B v = true := by
  refine ⟨fun k B hk hB => ?_, f.v, by simp [hf], he⟩
  rw [List.getElem?_map] at hB
  cases hg : o[k]? with
  | none => rw [hg] at hB; cases hB
  | some g => rw [hg] at hB; cases hB; exact hn k g hk hg
/-- The place of the piece with those counts, or none. -/
theorem found_or (v : Nat → Int) : ∀ o : List Fr, (∃ (a : Nat) (f : Fr), o[a]? = some f ∧ (∀ (j : Nat) (g : Fr), j < a → o[j]? = some g → eqV g.v v = false) ∧ eqV f.v v = true) ∨ (∀ (j : Nat) (g : Fr), j < o.length → o[j]? = some g → eqV g.v v = false)
  | [] => .inr fun j g hj => absurd hj (by simp)
  | q :: o => by
    cases hq : eqV q.v v with
    | true => exact .inl ⟨0, q, rfl, fun j g hj => absurd hj (by omega), hq⟩
    | false =>
      rcases found_or v o with ⟨a, f, h1, h2, h3⟩ | h
      · refine .inl ⟨a + 1, f, by simpa using h1, fun j g hj hg => ?_, h3⟩
        cases j with
        | zero => simp at hg; subst hg; exact hq
        | succ j => exact h2 j g (by omega) (by simpa using hg)
      · refine .inr fun j g hj hg => ?_
        cases j with
        | zero => simp at hg; subst hg; exact hq
        | succ j => exact h j g (by simpa using hj) (by simpa using hg)
theorem grp_pcs_miss {o : List Fr} {v : Nat → Int} (h : ∀ j g, j < o.length → o[j]? = some g → eqV g.v v = false) : ∀ B ∈ o.map (·.v), eqV B v = false := by
  intro B hB
  obtain ⟨g, hg, rfl⟩ := List.mem_map.1 hB
  obtain ⟨j, hj⟩ := List.getElem?_of_mem hg
  exact h j g (posA hj) hj
theorem map_set_v {o : List Fr} {a : Nat} {f f' : Fr} (hf : o[a]? = some f) (hv : f'.v = f.v) : (o.set a f').map (·.v) = o.map (·.v) := by
  rw [List.map_set, hv]
  refine List.ext_getElem? fun i => ?_
  by_cases e : a = i
  · subst e
    have hl := posA hf
    rw [List.getElem?_set_self (by simpa using hl), List.getElem?_map, hf]; rfl
  · rw [List.getElem?_set_ne e]

end Go.Proofs.Ythhbjgecdhogoaa
