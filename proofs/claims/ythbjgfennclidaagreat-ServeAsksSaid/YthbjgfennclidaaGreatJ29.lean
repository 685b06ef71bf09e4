/- Joined: KPlS, KPlain, KFrag, KCodeA, LocM1. -/
import Derived.Test.YthbjgfennclidaaGreatJ11
import Derived.Test.YthbjgfennclidaaGreatJ15
import Derived.Test.YthbjgfennclidaaGreatJ16
import Derived.Test.YthbjgfennclidaaGreatJ02
import Derived.Test.YthbjgfennclidaaGreatJ03
import Derived.Test.YthbjgfennclidaaGreatJ22
import Derived.Test.YthbjgfennclidaaGreatJ24
import Derived.Test.YthbjgfennclidaaGreatJ17
import Derived.Test.YthbjgfennclidaaGreatJ18
import Derived.Test.YthbjgfennclidaaGreatJ12
import Derived.Deep.RegionHeld3
import Derived.Lib.QuietBelow
import Derived.BigQuiet
/- What stands in memory while the code makes it plain. No walk. -/
namespace Go.Proofs.YthbjgfennclidaaGreat
set_option linter.unusedVariables false
set_option linter.unusedSimpArgs false
set_option maxRecDepth 100000
open Go.RowKit Go.Maps
def FrOwn (w : World) (B : Nat) (l : List Fr) (v : Value) : Prop := (∀ f ∈ l, ∀ s ∈ f.ids, s.size ≤ maxLen) ∧ ∃ U, PK w B l U v
theorem PK.mono {w : World} {base B : Nat} {o : List Fr} {U : Nat → Value} {Lv : Value} (h : PK w base o U Lv) (hB : B ≤ base) : PK w B o U Lv :=
  ⟨⟨h.row.1, h.row.2.imp id fun ⟨g, cap, cur, h1, h2, h3⟩ => ⟨g, cap, cur, h1, Nat.le_trans hB h2, h3⟩⟩, fun i f hf => (h.ids i f hf).mono hB, h.apart⟩
theorem FrOwn.fresh {w : World} {B : Nat} {l : List Fr} {v : Value} (h : FrOwn w B l v) : FrFresh w B l v := by
  obtain ⟨hok, U, h⟩ := h
  exact h.fresh (Nat.le_refl _) hok
theorem FrOwn.fr {w : World} {B : Nat} {l : List Fr} {v : Value} (h : FrOwn w B l v) : FrW w l v := h.fresh.fr
theorem FrOwn.mono {w : World} {B B' : Nat} {l : List Fr} {v : Value} (h : FrOwn w B l v) (hB : B' ≤ B) : FrOwn w B' l v := by
  obtain ⟨hok, U, h⟩ := h
  exact ⟨hok, U, h.mono hB⟩
theorem FrOwn.setLow {w : World} {B : Nat} {l : List Fr} {v : Value} (h : FrOwn w B l v) {a : Addr} (ha : a.block < B) (u : Value) : FrOwn (w.setCell a u) B l v := by
  obtain ⟨hok, U, h⟩ := h
  exact ⟨hok, U, h.setLow ha u⟩
structure KP (w0 : World) (base bm bp nc : Nat) (X Z : Array Value) (ids : List ByteArray) (raw : ByteArray → Nat → Int) (names : List ByteArray) (nv : Value) (vs : List (Nat → Int)) (o : List Fr) (U : Nat → Value) (Lv : Value) (wr : World) : Prop where
  o1 : Own wr w0.heap.size X 31
  o2 : Own wr (w0.heap.size + 1) Z 31
  cnt : Cnt wr bm nc ids raw
  pcs : Pcs wr bp vs
  nm : OwnT wr w0.heap.size names nv
  nb : ∀ b, nv.ownBlock = some b → b < base
  pk : PK wr base o U Lv
  bel : Below w0.heap.size w0 wr
  hb : w0.heap.size + 1 < bp
  hm : bm < base ∧ bm ≠ bp
  hp : bp < base
  hw : base ≤ wr.heap.size
section
variable {w0 wr w' : World} {base bm bp nc : Nat} {X Z : Array Value} {ids : List ByteArray} {raw : ByteArray → Nat → Int} {names : List ByteArray} {nv : Value} {vs : List (Nat → Int)} {o : List Fr} {U : Nat → Value} {Lv : Value}
theorem KP.low (h : KP w0 base bm bp nc X Z ids raw names nv vs o U Lv wr) (hs : ∀ b, b < base → w'.heap[b]? = wr.heap[b]?) : Own w' w0.heap.size X 31 ∧ Own w' (w0.heap.size + 1) Z 31 ∧ Cnt w' bm nc ids raw ∧ Pcs w' bp vs ∧ OwnT w' w0.heap.size names nv := by
  have h1 := h.hb; have h2 := h.hm; have h3 := h.hp
  refine ⟨⟨(hs _ (by omega)).trans h.o1.blk⟩, ⟨(hs _ (by omega)).trans h.o2.blk⟩, ?_, (hs _ h3).trans h.pcs, ?_⟩
  · obtain ⟨D, ⟨es, clock, q1, F, q2, q3⟩, r⟩ := h.cnt
    exact ⟨D, ⟨es, clock, (hs _ h2.1).trans q1, F, q2, q3⟩, r⟩
  · refine ⟨h.nm.1, ?_⟩
    rcases h.nm.2 with q | ⟨g, cap, cur, hv, hg, hh, r⟩
    · exact .inl q
    · exact .inr ⟨g, cap, cur, hv, hg, (hs g (h.nb g (by rw [hv]; rfl))).trans hh, r⟩
theorem KP.later (h : KP w0 base bm bp nc X Z ids raw names nv vs o U Lv wr) (hb : Below wr.heap.size wr w') : KP w0 base bm bp nc X Z ids raw names nv vs o U Lv w' :=
  have hl := h.low (w' := w') fun b hlt => hb.block b (Nat.lt_of_lt_of_le hlt h.hw)
  ⟨hl.1, hl.2.1, hl.2.2.1, hl.2.2.2.1, hl.2.2.2.2, h.nb, h.pk.later hb, h.bel.trans (hb.mono h.bel.size), h.hb, h.hm, h.hp, Nat.le_trans h.hw hb.size⟩
theorem KP.alloc (h : KP w0 base bm bp nc X Z ids raw names nv vs o U Lv wr) (ob : Obj) : KP w0 base bm bp nc X Z ids raw names nv vs o U Lv (wr.alloc ob) := h.later ((Below.refl _ _).alloc (Nat.le_refl _) _)
theorem KP.put (h : KP w0 base bm bp nc X Z ids raw names nv vs o U Lv wr) {vs' : List (Nat → Int)} (hp : Pcs w' bp vs') (hg : wr.grownBy w' (some bp)) : KP w0 base bm bp nc X Z ids raw names nv vs' o U Lv w' := by
  have h1 := h.hb; have h2 := h.hm; have h3 := h.hp; have h4 := h.hw; have h5 := h.bel.size
  have hs : ∀ b, b < wr.heap.size → b ≠ bp → w'.heap[b]? = wr.heap[b]? := fun b hb hne => hg.block b hb (by simp [hne])
  refine ⟨⟨(hs _ (by omega) (by omega)).trans h.o1.blk⟩, ⟨(hs _ (by omega) (by omega)).trans h.o2.blk⟩, ?_, hp, ?_, h.nb, h.pk.kept fun b hb hlt => hs b hlt (by omega), h.bel.grown hg (by omega) (fun k hk => by cases hk; omega), h.hb, h.hm, h.hp, Nat.le_trans h.hw hg.size⟩
  · obtain ⟨D, ⟨es, clock, q1, F, q2, q3⟩, r⟩ := h.cnt
    exact ⟨D, ⟨es, clock, (hs _ (by omega) h2.2).trans q1, F, q2, q3⟩, r⟩
  · refine World.ownsRow.kept h.nm hg ?_
    rcases h.nm.2 with ⟨rfl, _⟩ | ⟨g, cap, cur, rfl, _, hh, _⟩
    · exact .inl rfl
    · right
      intro e
      simp only [Value.ownBlock, Option.some.injEq] at e
      subst e
      have hq := h.pcs
      unfold Pcs at hq
      rw [hh] at hq
      cases hq
theorem KP.grow (h : KP w0 base bm bp nc X Z ids raw names nv vs o U Lv wr) {row : Option Nat} (hg : wr.grownBy w' row) (hr : ∀ k, row = some k → base ≤ k) {o' : List Fr} {U' : Nat → Value} {Lv' : Value} (hk : PK w' base o' U' Lv') : KP w0 base bm bp nc X Z ids raw names nv vs o' U' Lv' w' :=
  have hl := h.low (w' := w') fun b hlt => hg.block b (Nat.lt_of_lt_of_le hlt h.hw) (fun e => by have := hr b e.symm; omega)
  ⟨hl.1, hl.2.1, hl.2.2.1, hl.2.2.2.1, hl.2.2.2.2, h.nb, hk, h.bel.grown hg h.bel.size (fun k hk => by have := hr k hk; have := h.hb; have := h.hp; omega), h.hb, h.hm, h.hp, Nat.le_trans h.hw hg.size⟩
theorem KP.addF (h : KP w0 base bm bp nc X Z ids raw names nv vs o U Lv wr) (v : Nat → Int) {g n cap : Nat} (hn : n = o.length + 1)
    (hown : w'.ownsRow base 125 9 (.slice (some ⟨g, 0, none⟩) n cap) n (frCs U 0 o ++ fc ⟨[], v⟩ (.slice none 0 0))) (hgrow : wr.grownBy w' Lv.ownBlock) :
    KP w0 base bm bp nc X Z ids raw names nv vs (o ++ [⟨[], v⟩]) (updU U o.length (.slice none 0 0)) (.slice (some ⟨g, 0, none⟩) n cap) w' :=
  h.grow hgrow (fun k hk => (World.ownsRow.lt h.pk.row k hk).1) (h.pk.pushF v hn hown hgrow)
theorem KP.addT {gl nl cl : Nat} (h : KP w0 base bm bp nc X Z ids raw names nv vs o U (.slice (some ⟨gl, 0, none⟩) nl cl) wr) {a : Nat} {f : Fr} (hf : o[a]? = some f) (s : ByteArray) {g n cap : Nat} (hn : n = f.ids.length + 1)
    (hown : w'.ownsRow base 9 1 (.slice (some ⟨g, 0, none⟩) n cap) n (txC f.ids ++ [.string s])) (hgrow : wr.grownBy w' (U a).ownBlock) (hat : (U a).ownBlock = some g ∨ g = wr.heap.size) :
    KP w0 base bm bp nc X Z ids raw names nv vs (o.set a ⟨f.ids ++ [s], f.v⟩) (updU U a (.slice (some ⟨g, 0, none⟩) n cap)) (.slice (some ⟨gl, 0, none⟩) nl cl) (w'.setCell ⟨gl, a * 9, none⟩ (.slice (some ⟨g, 0, none⟩) n cap)) := by
  have hu := h.pk.ids a f hf
  have hgl : base ≤ gl := (World.ownsRow.lt h.pk.row gl rfl).1
  have hr : ∀ k, (U a).ownBlock = some k → base ≤ k := fun k hk => (World.ownsRow.lt hu k hk).1
  have hl := h.low (w' := w'.setCell ⟨gl, a * 9, none⟩ (.slice (some ⟨g, 0, none⟩) n cap)) fun b hlt => (Below.heap_setCell _ _ _ _ (by show b ≠ gl; omega)).trans (hgrow.block b (Nat.lt_of_lt_of_le hlt h.hw) (fun e => by have := hr b e.symm; omega))
  have h1 := h.hb; have h3 := h.hp; have h4 := hgrow.size; have h5 := h.hw
  exact ⟨hl.1, hl.2.1, hl.2.2.1, hl.2.2.2.1, hl.2.2.2.2, h.nb, h.pk.pushT hf s hn hown hgrow hat, (h.bel.grown hgrow h.bel.size (fun k hk => by have := hr k hk; omega)).setCell (by show w0.heap.size ≤ gl; omega) _, h.hb, h.hm, h.hp, by simp [World.setCell]; omega⟩
theorem kp9o (h : KP w0 base bm bp nc X Z ids raw names nv vs o U Lv wr) (hok : ∀ f ∈ o, ∀ s ∈ f.ids, s.size ≤ maxLen) (c0 c1 c2 c3 c4 c5 c6 c7 c8 : Value) : FrOwn (st9 wr (w0.heap.size + 1) c0 c1 c2 c3 c4 c5 c6 c7 c8) w0.heap.size o Lv := by
  have hb : ∀ q, ((⟨w0.heap.size + 1, q, none⟩ : Addr)).block < base := fun q => by have := h.hb; have := h.hp; show w0.heap.size + 1 < base; omega
  exact ⟨hok, U, ((((((((((h.pk.setLow (hb 0) c0).setLow (hb 1) c1).setLow (hb 2) c2).setLow (hb 3) c3).setLow (hb 4) c4).setLow (hb 5) c5).setLow (hb 6) c6).setLow (hb 7) c7).setLow (hb 8) c8).mono (by have := h.hb; have := h.hp; omega))⟩
end
/-! ### What the pieces' map tells -/
theorem grp_pcs_hit {o : List Fr} {v : Nat → Int} {a : Nat} {f : Fr} (hf : o[a]? = some f) (hn : ∀ j g, j < a → o[j]? = some g → eqV g.v v = false) (he : eqV f.v v = true) :
    (∀ k B, k < a → (o.map (·.v))[k]? = some B → eqV B v = false) ∧ ∃ B, (o.map (·.v))[a]? = some B ∧ eqV B v = true := by
  refine ⟨fun k B hk hB => ?_, f.v, by simp [hf], he⟩
  rw [List.getElem?_map] at hB
  cases hg : o[k]? with
  | none => rw [hg] at hB; cases hB
  | some g => rw [hg] at hB; cases hB; exact hn k g hk hg
theorem found_or (v : Nat → Int) : ∀ o : List Fr, (∃ (a : Nat) (f : Fr), o[a]? = some f ∧ (∀ (j : Nat) (g : Fr), j < a → o[j]? = some g → eqV g.v v = false) ∧ eqV f.v v = true) ∨ (∀ (j : Nat) (g : Fr), j < o.length → o[j]? = some g → eqV g.v v = false)
  | [] => .inr fun j g hj => absurd hj (by simp)
  | q :: o => by
    cases hq : eqV q.v v with
    | true => exact .inl ⟨0, q, rfl, fun j g hj => absurd hj (by omega), hq⟩
    | false =>
      rcases found_or v o with ⟨a, f, h1, h2, h3⟩ | h
      · refine .inl ⟨a + 1, f, by simpa using h1, fun j g hj hg => ?_, h3⟩
        cases j with
        | zero => simp at hg; subst hg; exact hq
        | succ j => exact h2 j g (by omega) (by simpa using hg)
      · refine .inr fun j g hj hg => ?_
        cases j with
        | zero => simp at hg; subst hg; exact hq
        | succ j => exact h j g (by simpa using hj) (by simpa using hg)
theorem grp_pcs_miss {o : List Fr} {v : Nat → Int} (h : ∀ j g, j < o.length → o[j]? = some g → eqV g.v v = false) : ∀ B ∈ o.map (·.v), eqV B v = false := by
  intro B hB
  obtain ⟨g, hg, rfl⟩ := List.mem_map.1 hB
  obtain ⟨j, hj⟩ := List.getElem?_of_mem hg
  exact h j g (posA hj) hj
theorem map_set_v {o : List Fr} {a : Nat} {f f' : Fr} (hf : o[a]? = some f) (hv : f'.v = f.v) : (o.set a f').map (·.v) = o.map (·.v) := by
  rw [List.map_set, hv]
  refine List.ext_getElem? fun i => ?_
  by_cases e : a = i
  · subst e
    have hl := posA hf
    rw [List.getElem?_set_self (by simpa using hl), List.getElem?_map, hf]; rfl
  · rw [List.getElem?_set_ne e]
end Go.Proofs.YthbjgfennclidaaGreat
/- What is known, made plain: the code's own, walked. -/
namespace Go.Proofs.YthbjgfennclidaaGreat
set_option linter.unusedVariables false
set_option linter.unusedSimpArgs false
set_option maxRecDepth 100000
open Go.RowKit Go.Maps
theorem vecV_congr {A B : Nat → Int} (h : ∀ j, j < 8 → A j = B j) : vecV A = vecV B := by
  simp only [vecV, h 0 (by omega), h 1 (by omega), h 2 (by omega), h 3 (by omega), h 4 (by omega), h 5 (by omega), h 6 (by omega), h 7 (by omega)]
def KRel (F : ByteArray → Nat → Int) (ns : List ByteArray) (nn : Nat) (w0 : World) (base bm bp nc : Nat) (X Z : Array Value) (ids : List ByteArray) (raw : ByteArray → Nat → Int) (nv : Value) (lv iv : Value) (wr : World) : Prop :=
  ∃ (k : Nat) (U : Nat → Value), k ≤ nn ∧ iv = .int .i64 k ∧ Hid (KP w0 base bm bp nc X Z ids raw ns nv ((grpF F (ns.take k)).map (·.v)) (grpF F (ns.take k)) U lv wr)
set_option maxRecDepth 100000 in
set_option maxHeartbeats 8000000 in
theorem codePlainO_calls (K : Kn) (v : Value) (w : World) (hR : FrW w K.l v) (hlen : (flatI K.l).length ≤ 10000) :
    Calls Tryz.prog 99 #[knV K.star v] w fun e w' => ∃ v', e = .returned (knV K.star v') ∧ FrOwn w' w.heap.size (plainB K).l v' ∧ Below w.heap.size w w' := by
  have hN := fun w' (hb : Below w.heap.size w w') => greatest_calls K.l v w' (hR.later hb (Nat.le_refl _)) hlen
  have HNL := Lib.hid (show (namesB K).length ≤ 10000 from Nat.le_trans (len_all _) hlen)
  have HOK : Hid (∀ s ∈ namesB K, s.size ≤ maxLen) := by
    obtain ⟨U, oa, cap, b, o, _, hr⟩ := hR
    exact fun s hs => fr_ok hr s (mem_all.1 hs)
  obtain ⟨ov, cv, rfl⟩ := hR.val
  have HP := Lib.hid (show (plainB K).l = grpF (beyB K) (namesB K) from rfl)
  have HBZ := Lib.hid (show ∀ id, vecV (bzV (rawF K.l id) K.star) = vecV (beyB K id) from fun id => vecV_congr fun j hj => by unfold bzV beyB; rw [if_pos hj])
  obtain ⟨A, l⟩ := K
  simp only at *
  generalize (plainB ⟨A, l⟩).l = res at *
  have hbx : Below w.heap.size w ((w.alloc (.cells (knA A (.slice ov l.length cv)) 31)).alloc (.cells (knA zeroV (.slice none 0 0)) 31)) :=
    ((Below.refl _ _).alloc (Nat.le_refl _) _).alloc (by simp) _
  have N := Lib.hid (hN _ hbx)
  have hrise := Lib.hid (rise_all (flatI l))
  have hmem := Lib.hid (fun s : ByteArray => (mem_all (l := flatI l) (x := s)).symm)
  have e : namesB ⟨A, l⟩ = insAll (flatI l) := rfl
  rw [e] at HP HNL HOK
  clear e
  generalize insAll (flatI l) = ns at *
  have I1 := Lib.hid (show Own _ _ _ _ ∧ Own _ _ _ _ ∧ Below _ _ _ from ⟨(Own.new w (knA A (.slice ov l.length cv)) 31).alloc (.cells (knA zeroV (.slice none 0 0)) 31), Own.newAt (w.alloc (.cells (knA A (.slice ov l.length cv)) 31)) (knA zeroV (.slice none 0 0)) 31 (b := w.heap.size + 1) (by simp), hbx⟩)
  have hsz2 : ((w.alloc (.cells (knA A (.slice ov l.length cv)) 31)).alloc (.cells (knA zeroV (.slice none 0 0)) 31)).heap.size = w.heap.size + 2 := by simp
  rw [hsz2] at N
  have HZ2 := Lib.hid hsz2
  clear hbx hN hsz2
  have hmm := @run_makeMap Tryz.prog
  go_enter Tryz.func99, Tryz.ntmps99
  go_wp2_with (first
    | (go_at_call 154; refine N.out.mono ?_; rintro e w3 ⟨rfl, hcnt, hb3⟩)
    | (go_at_call 156; have hc4 := Lib.hid (hcnt.later ((Below.refl w3.heap.size w3).alloc (Nat.le_refl _) (.map #[] 0))); refine (keysC (some (w.heap.size + 2)) (w3.alloc (.map #[] 0)) (w3.heap.size + 1) (by simp)).mono ?_; rintro e w4 ⟨rfl, rfl⟩)
    | (go_at_call 155; refine (sortedC hc4.out ns hrise.out hmem.out HNL.out (w3.heap.size + 1) (by simp)).mono ?_; rintro e w5 ⟨nv, rfl, hnv, hb5⟩; obtain ⟨on, cn, gn, rfl, hn1, hn2, hn3⟩ := row_slice hnv)
    | fail)
  have e4 : ((w3.alloc (.map #[] 0)).alloc (.cells #[.map (some (w.heap.size + 2))] 201)).heap.size = w3.heap.size + 1 + 1 := by simp
  have hb5' := hb5
  rw [← e4] at hb5'
  have hs3 := hcnt.lt
  have hs5 := hb5.size
  rw [e4] at hs5
  have S0 := Lib.hid (show KP w w5.heap.size (w.heap.size + 2) w3.heap.size _ (knA A (.slice ov l.length cv)) (knA zeroV (.slice none 0 0)) (flatI l) (rawF l) ns (.slice on ns.length cn) [] [] (fun _ => .slice none 0 0) (.slice none 0 0) w5 from
    ⟨((((I1.out.1.below hb3 (by omega)).alloc _).alloc _).later hb5'), ((((I1.out.2.1.below hb3 (by omega)).alloc _).alloc _).later hb5'), (hc4.out.later ((Below.refl _ _).alloc (Nat.le_refl _) _)).later hb5', ((Pcs.made w3).later ((Below.refl _ _).alloc (Nat.le_refl _) _)).later hb5', hnv.mono (by omega), fun b hb => (World.ownsRow.lt hnv b hb).2, PK.nil _ _ _,
      ((((I1.out.2.2.trans (hb3.mono (by omega))).alloc (by omega) _).alloc (by simp; omega) _).trans (hb5.mono (by omega))), by omega, ⟨by omega, by omega⟩, by omega, Nat.le_refl _⟩)
  have hcap := hn1
  have hmax := hn2
  unfold maxLen at hmax
  have HN3 := Lib.hid hn3
  clear hnv hb5 hb5' hb3 hcnt hc4 I1 N hn1 hn2 hn3 hR e4 hs3 hs5 HZ2 hmem hrise
  generalize w5.heap.size = base at *
  generalize w3.heap.size = bp at *
  generalize hF : beyB ⟨A, l⟩ = F at *
  generalize hbm : w.heap.size + 2 = bm at *
  generalize hnn : ns.length = nn at *
  have HNN := Lib.hid hnn
  clear hnn hF hbm
  go_wp2_with fail
  go_loopw [5, 19] (fun lv iv wr => KRel F ns nn w base bm bp (flatI l).length (knA A (.slice ov l.length cv)) (knA zeroV (.slice none 0 0)) (flatI l) (rawF l) (.slice on nn cn) lv iv wr) (fun _ iv _ => nn - (intOf iv).toNat)
  case atStart => exact ⟨0, _, Nat.zero_le _, rfl, by simpa [grpF] using S0⟩
  case round =>
    clear S0
    obtain ⟨k, U, hk, rfl, HS⟩ := hrel
    by_cases hlt : k < nn
    · obtain ⟨id, hid⟩ : ∃ id, ns[k]? = some id := ⟨_, List.getElem?_eq_getElem (by rw [HNN.out]; exact hlt)⟩
      obtain ⟨rfl, hgn⟩ := HN3.out (by omega)
      have c0 : wr.cell? ⟨gn, k, none⟩ = some (.string id) := by
        have h := HS.out.nm
        unfold OwnT at h
        rw [HNN.out] at h
        rw [h.cellAt k (by omega)]
        simp [txC, hid]
      have zg : gn < wr.heap.size := (World.ownsRow.lt HS.out.nm gn rfl).2
      have hsz := HOK.out id (List.mem_of_getElem? hid)
      have HG := Lib.hid (grp_take (F := F) hid)
      have HK := Lib.hid (Nat.le_trans (grp_len F (ns.take k) []) (show [].length + (ns.take k).length ≤ k by rw [List.length_take]; simp; omega))
      have HOL : (grpF F (ns.take k)).length ≤ k := HK.out
      have HIDL := Lib.hid (show ∀ f ∈ grpF F (ns.take k), f.ids.length ≤ 10000 from fun f hf => by
        have h1 := grp_idlen (F := F) (ns.take k) [] 0 (fun g hg => by simp at hg) f hf
        rw [List.length_take] at h1
        have := HNL.out; have := HNN.out
        omega)
      have HID := Lib.hid hid
      clear hid HK
      generalize grpF F (ns.take k) = o at *
      have hlk := HS.out.cnt.look hsz
      have l1 := HS.out.o1.cell
      have z1 := HS.out.o1.lt
      have CB : ∀ w', Hid (Calls Tryz.prog 157 #[vecV (rawF l id), vecV A] w' fun e w'' => e = .returned (vecV (F id)) ∧ Below w'.heap.size w' w'') := fun w' => Lib.hid (by rw [← HBZ.out id]; exact codeBeyond_calls (rawF l id) A w')
      have HSZ := Lib.hid hsz
      obtain ⟨oL, cL, gL, rfl, hL1, hL2, hL3⟩ := row_slice HS.out.pk.row
      have HL3 := Lib.hid hL3
      unfold maxLen at hL2
      generalize hno : o.length = no at *
      have HNO := Lib.hid hno
      clear hno hsz hL3
      go_upto_region 8 with (go_at_call 157; refine (CB _).out.mono ?_; rintro e w7 ⟨rfl, hb7⟩)
      have HV := Lib.hid (Own.new w7 (arr8 (F id)) 28)
      have HQ := Lib.hid ((HS.out.later hb7).alloc (.cells (arr8 (F id)) 28))
      have hbv := Lib.hid (Nat.le_trans HS.out.hw hb7.size)
      clear HS hlk l1 z1 CB c0 zg hb7
      generalize w7.heap.size = bv at *
      generalize w7.alloc (.cells (arr8 (F id)) 28) = wq at *
      have lv := HV.out.cell
      have zv := HV.out.lt
      have hz := fun w' => show (Op.equalIn 10000 28 (.agg #[.int .i64 (F id 0), .int .i64 (F id 1), .int .i64 (F id 2), .int .i64 (F id 3), .int .i64 (F id 4), .int .i64 (F id 5), .int .i64 (F id 6), .int .i64 (F id 7)]) (.agg #[.int .i64 0, .int .i64 0, .int .i64 0, .int .i64 0, .int .i64 0, .int .i64 0, .int .i64 0, .int .i64 0])).run Tryz.prog w' = .ok (eqV (F id) zeroV) w' from eqVec7 (F id) zeroV w'
      cases hzz : eqV (F id) zeroV
      · rw [hzz] at hz
        have HG2 := Lib.hid (show grpF F (ns.take (k + 1)) = putF (F id) id o by rw [HG.out]; unfold grpStep; rw [if_neg (by rw [hzz]; simp)])
        clear HG hzz
        go_upto_region 9 with fail
        go_cut [9, 10] (fun s9 s10 wx => ∃ (a : Int) (b : Bool), s9 = .int .i64 a ∧ s10 = .bool b ∧ Hid (wq = wx) ∧ Hid ((b = true ∧ ∃ (i : Nat) (f : Fr), a = i ∧ o[i]? = some f ∧ putF (F id) id o = o.set i ⟨f.ids ++ [id], f.v⟩) ∨ (b = false ∧ ∀ (j : Nat) (g : Fr), j < o.length → o[j]? = some g → eqV g.v (F id) = false)))
        case first =>
          rcases found_or (F id) o with ⟨a, f, hf, hn, he⟩ | hn
          · have hit := HQ.out.pcs.hit (grp_pcs_hit hf hn he).1 (grp_pcs_hit hf hn he).2
            have hit : (Instr.lookup 203 (.map (some bp)) (.agg #[.int .i64 (F id 0), .int .i64 (F id 1), .int .i64 (F id 2), .int .i64 (F id 3), .int .i64 (F id 4), .int .i64 (F id 5), .int .i64 (F id 6), .int .i64 (F id 7)]) true).run Tryz.prog wq = .ok (.tuple #[.int .i64 a, .bool true]) wq := hit
            have HPE := Lib.hid (put_at (id := id) hf hn he)
            have HF := Lib.hid hf
            clear hf hn he hz
            go_wp2_with fail
            go_meet
            exact ⟨a, true, rfl, rfl, Lib.hid rfl, Lib.hid (.inl ⟨rfl, a, f, rfl, HF.out, HPE.out⟩)⟩
          · have miss := HQ.out.pcs.miss (grp_pcs_miss hn)
            have miss : (Instr.lookup 203 (.map (some bp)) (.agg #[.int .i64 (F id 0), .int .i64 (F id 1), .int .i64 (F id 2), .int .i64 (F id 3), .int .i64 (F id 4), .int .i64 (F id 5), .int .i64 (F id 6), .int .i64 (F id 7)]) true).run Tryz.prog wq = .ok (.tuple #[.int .i64 0, .bool false]) wq := miss
            have HN0 := Lib.hid hn
            clear hn hz
            go_wp2_with fail
            go_meet
            exact ⟨0, false, rfl, rfl, Lib.hid rfl, Lib.hid (.inr ⟨rfl, HN0.out⟩)⟩
        case rest =>
          obtain ⟨ai, bi, rfl, rfl, hwx, HB⟩ := hcut
          have ewx := hwx.out
          subst ewx
          clear hwx
          go_upto_if 39 with fail
          go_cut [5, 9] (fun s5 s9 wx => ∃ (a no' gL' cL' : Nat), s5 = .slice (some ⟨gL', 0, none⟩) no' cL' ∧ s9 = .int .i64 a ∧ Hid (∃ (o' : List Fr) (U' : Nat → Value) (f : Fr), o'.length = no' ∧ KP w base bm bp (flatI l).length (knA A (.slice ov l.length cv)) (knA zeroV (.slice none 0 0)) (flatI l) (rawF l) ns (.slice (some ⟨gn, 0, none⟩) nn cn) (o'.map (·.v)) o' U' (.slice (some ⟨gL', 0, none⟩) no' cL') wx ∧ o'[a]? = some f ∧ f.ids.length ≤ 10000 ∧ putF (F id) id o = o'.set a ⟨f.ids ++ [id], f.v⟩))
          case first =>
            rcases HB.out with ⟨rfl, a, f, rfl, hf, hpe⟩ | ⟨rfl, hn⟩
            · have HPE := Lib.hid hpe
              have HF := Lib.hid hf
              have hlt2 : a < no := by have := posA hf; rw [HNO.out] at this; exact this
              obtain ⟨rfl, hgL⟩ := HL3.out (by omega)
              clear hf hpe hz
              go_wp2_with fail
              go_meet
              exact ⟨a, no, gL, cL, rfl, rfl, Lib.hid ⟨o, U, f, HNO.out, HQ.out, HF.out, HIDL.out f (List.mem_of_getElem? HF.out), HPE.out⟩⟩
            · have HPE := Lib.hid (put_new (v := F id) (id := id) (o := o) hn)
              obtain ⟨w8, hput, hp8, hg8⟩ := HQ.out.pcs.put (grp_pcs_miss hn)
              rw [List.length_map, HNO.out] at hput
              have hput : (Instr.mapUpdate 203 (.map (some bp)) (.agg #[.int .i64 (F id 0), .int .i64 (F id 1), .int .i64 (F id 2), .int .i64 (F id 3), .int .i64 (F id 4), .int .i64 (F id 5), .int .i64 (F id 6), .int .i64 (F id 7)]) (.int .i64 (no : Int))).run Tryz.prog wq = .ok () w8 := hput
              have H8 := Lib.hid (HQ.out.put hp8 hg8)
              have V8 := HV.out.grown hg8 (by simp only [ne_eq, Option.some.injEq]; have := HQ.out.hp; have := hbv.out; omega)
              have lv8 := V8.cell
              have zv8 := V8.lt
              clear hn hz hp8 hg8 V8
              have HSA := Lib.hid (H8.out.alloc (.cells #[.slice none 0 0, .int .i64 (F id 0), .int .i64 (F id 1), .int .i64 (F id 2), .int .i64 (F id 3), .int .i64 (F id 4), .int .i64 (F id 5), .int .i64 (F id 6), .int .i64 (F id 7)] 125))
              have hown : (w8.alloc (.cells #[.slice none 0 0, .int .i64 (F id 0), .int .i64 (F id 1), .int .i64 (F id 2), .int .i64 (F id 3), .int .i64 (F id 4), .int .i64 (F id 5), .int .i64 (F id 6), .int .i64 (F id 7)] 125)).ownsRow base 125 9 (.slice oL no cL) no (frCs U 0 o) := by
                have h := HSA.out.pk.row
                rw [HNO.out] at h
                exact h
              obtain ⟨j0, hj, hy0, hy1, hy2⟩ := info_parts info_frag
              have hnl := HNL.out
              have hnn2 := HNN.out
              have t1 : base ≤ (w8.alloc (.cells #[.slice none 0 0, .int .i64 (F id 0), .int .i64 (F id 1), .int .i64 (F id 2), .int .i64 (F id 3), .int .i64 (F id 4), .int .i64 (F id 5), .int .i64 (F id 6), .int .i64 (F id 7)] 125)).heap.size := by have := H8.out.hw; simp; omega
              have t2 : (w8.alloc (.cells #[.slice none 0 0, .int .i64 (F id 0), .int .i64 (F id 1), .int .i64 (F id 2), .int .i64 (F id 3), .int .i64 (F id 4), .int .i64 (F id 5), .int .i64 (F id 6), .int .i64 (F id 7)] 125)).heap.size = w8.heap.size + 1 := by simp
              have t3 : no + 1 ≤ maxLen := by unfold maxLen; omega
              have t4 : (no + 1) * 88 ≤ 140737488355328 := by omega
              clear hnn2
              go_upto_region 13 with fail
              go_wp2_with (at_builtin; refine wpList_append_lies _ (by rfl) _ _ _ (by rfl) base 125 j0 _ 9 88 Tryz.underlying29 hj hy0 hy1 hy2 rfl (by omega) (.slice oL no cL) no (frCs U 0 o) (by rfl) hown ⟨w8.heap.size, 0, none⟩ 1 1 (fc ⟨[], F id⟩ (.slice none 0 0)) (by rfl) (by rfl) newsF (oneF _ rfl) (by omega) t3 t4 t1 (w8.heap.size + 1) t2 ?_; intro g cap' w9 hown9 hgrow hat9 hlt9; have R := HSA.out.addF (F id) (by rw [HNO.out]) hown9 hgrow)
              go_meet
              exact ⟨no, no + 1, g, cap', rfl, rfl, Lib.hid ⟨o ++ [(⟨[], F id⟩ : Fr)], _, ⟨[], F id⟩, by simp [HNO.out], by rw [List.map_append]; exact R, by rw [← HNO.out]; simp, by simp, by rw [HPE.out, HNO.out]⟩⟩
          case rest =>
            clear HB HQ HV hbv hz lv zv HL3 hL1 hL2 HIDL HNO
            obtain ⟨a, no', gL', cL', rfl, rfl, HC⟩ := hcut
            obtain ⟨o', U', f, hno', hs, hf, hil, hpe⟩ := HC.out
            clear HC
            generalize wc = wq at *
            have HQ := Lib.hid hs
            have HF := Lib.hid hf
            have HGK := Lib.hid (show grpF F (ns.take (k + 1)) = o'.set a ⟨f.ids ++ [id], f.v⟩ by rw [HG2.out, hpe])
            have hlt3 : a < no' := by have := posA hf; omega
            have HNO := Lib.hid hno'
            clear hs hf hpe HG2 hno'
            have hUT := HQ.out.pk.ids a f HF.out
            obtain ⟨oU, cU, gU, hUa, hU1, hU2, hU3⟩ := row_slice hUT
            obtain ⟨d0, _⟩ := fc_cells (w := wq) (o := a * 9) (HQ.out.pk.at HF.out)
            rw [hUa] at d0
            have hown : (wq.alloc (.cells #[.string id] 9)).ownsRow base 9 1 (.slice oU f.ids.length cU) f.ids.length (txC f.ids) := by
              have h := OwnT.alloc hUT (.cells #[.string id] 9)
              rw [hUa] at h
              exact h
            have HUA := Lib.hid hUa
            have zL7 : gL' < wq.heap.size := (World.ownsRow.lt HQ.out.pk.row gL' rfl).2
            have hidl : (f.ids.length + 1) * 16 ≤ 140737488355328 := by omega
            obtain ⟨i0, hi, hz0, hz1, hz2⟩ := info_parts info_text
            have HSA := Lib.hid (HQ.out.alloc (.cells #[.string id] 9))
            have t1 : base ≤ (wq.alloc (.cells #[.string id] 9)).heap.size := by have := HQ.out.hw; simp; omega
            have t2 : (wq.alloc (.cells #[.string id] 9)).heap.size = wq.heap.size + 1 := by simp
            have t3 : f.ids.length + 1 ≤ maxLen := by unfold maxLen; omega
            have hsl : no' ≤ cL' := by
              obtain ⟨oq, cq, gq, eq, h1, _⟩ := row_slice HQ.out.pk.row
              rw [HNO.out] at eq h1
              cases eq; exact h1
            clear hUa hUT hU1 hU2 hU3 HQ hil
            go_wp2_with (at_builtin; refine wpList_append_lies _ (by rfl) _ _ _ (by rfl) base 9 i0 _ 1 16 Tryz.underlying123 hi hz0 hz1 hz2 rfl (by omega) (.slice oU f.ids.length cU) f.ids.length (txC f.ids) (by rfl) hown ⟨wq.heap.size, 0, none⟩ 1 1 [.string id] (by rfl) (by rfl) (newsT (w := wq)) (oneT id) (by omega) t3 hidl t1 (wq.heap.size + 1) t2 ?_; intro g cap' w3 hown3 hgrow hat3 hlt3; have R := Lib.hid (HSA.out.addT HF.out id rfl hown3 (by rw [HUA.out]; exact hgrow) (by rw [HUA.out]; simpa using hat3)); have rw3 := World.ownsRow.kept HSA.out.pk.row hgrow (by rw [← HUA.out]; exact row_apart HSA.out.pk.row (HSA.out.pk.ids a f HF.out) (fun e => ft_ne e.symm)); have cw3 := fr_cell rw3 HF.out; have fw3 := row_free rw3 (a * 9); clear rw3 hown3 hgrow hat3)
            go_roundw
            case rel => exact ⟨k + 1, _, by omega, by go_num, Lib.hid (by rw [HGK.out, map_set_v (f' := ⟨f.ids ++ [id], f.v⟩) HF.out rfl]; exact R.out)⟩
            case measure => simp [intOf]; omega
      · rw [hzz] at hz
        have HG2 := Lib.hid (show grpF F (ns.take (k + 1)) = o by rw [HG.out]; unfold grpStep; rw [if_pos hzz])
        clear HG hzz
        have HQ2 := Lib.hid (show KP w base bm bp (flatI l).length (knA A (.slice ov l.length cv)) (knA zeroV (.slice none 0 0)) (flatI l) (rawF l) ns (.slice (some ⟨gn, 0, none⟩) nn cn) ((grpF F (ns.take (k + 1))).map (·.v)) (grpF F (ns.take (k + 1))) U (.slice oL no cL) wq by rw [HG2.out]; exact HQ.out)
        go_wp2_with fail
        go_roundw
        case rel => exact ⟨k + 1, U, by omega, by go_num, HQ2⟩
        case measure => simp [intOf]; omega
    · have e : nn = k := by omega
      subst e
      have h1 := HS.out
      rw [show ns.take nn = ns from List.take_of_length_le (by rw [HNN.out]; omega)] at h1
      have hfr := kp9o h1 (fun f hf s hs => HOK.out s (by
        rcases grp_ids (F := F) ns [] ⟨f, hf, hs⟩ with h | ⟨g, hg, _⟩
        · exact h
        · simp at hg))
      rw [← HP.out] at hfr
      obtain ⟨oL, cL, gL, rfl, hL1, hL2, hL3⟩ := row_slice h1.pk.row
      have l1 := h1.o1.cell
      have z1 := h1.o1.lt
      have l2 := h1.o2.cell
      have f2 := h1.o2.free
      have z2 := h1.o2.lt
      have key := And.intro (st9_own h1.o2 (.int .i64 (A 0)) (.int .i64 (A 1)) (.int .i64 (A 2)) (.int .i64 (A 3)) (.int .i64 (A 4)) (.int .i64 (A 5)) (.int .i64 (A 6)) (.int .i64 (A 7)) (.slice oL (grpF F ns).length cL)) (And.intro (st9_below (b := w.heap.size + 1) h1.bel (by omega) (.int .i64 (A 0)) (.int .i64 (A 1)) (.int .i64 (A 2)) (.int .i64 (A 3)) (.int .i64 (A 4)) (.int .i64 (A 5)) (.int .i64 (A 6)) (.int .i64 (A 7)) (.slice oL (grpF F ns).length cL)) (hfr (.int .i64 (A 0)) (.int .i64 (A 1)) (.int .i64 (A 2)) (.int .i64 (A 3)) (.int .i64 (A 4)) (.int .i64 (A 5)) (.int .i64 (A 6)) (.int .i64 (A 7)) (.slice oL (grpF F ns).length cL)))
      have KEY := Lib.hid key
      clear key hfr h1 hL1 hL2 hL3 HS HP
      generalize (grpF F ns).length = nr at *
      go_wp2_with fail
      clear l2 f2 z2 l1 z1
      have key := KEY.out
      unfold st9 st8 at key
      revert key
      generalize World.setCell (World.setCell (World.setCell (World.setCell (World.setCell (World.setCell (World.setCell (World.setCell (World.setCell _ _ _) _ _) _ _) _ _) _ _) _ _) _ _) _ _) _ _ = WW
      rintro ⟨of, bf, ff⟩
      have lf := of.cell
      refine bodyPost_ret (v := knV A (.slice oL nr cL)) (by simp [results, Tryz.results99, go_sem, lf]) rfl ⟨_, rfl, ff, bf⟩
theorem codePlain_calls (K : Kn) (v : Value) (w : World) (hR : FrW w K.l v) (hlen : (flatI K.l).length ≤ 10000) :
    Calls Tryz.prog 99 #[knV K.star v] w fun e w' => ∃ v', e = .returned (knV K.star v') ∧ FrFresh w' w.heap.size (plainB K).l v' ∧ Below w.heap.size w w' :=
  (codePlainO_calls K v w hR hlen).mono fun _ _ ⟨v', he, hf, hb⟩ => ⟨v', he, hf.fresh, hb⟩
end Go.Proofs.YthbjgfennclidaaGreat
/- Pieces in lists: slices.ContainsFunc over two closures, slices.EqualFunc; equal, odd. Walked. -/
namespace Go.Proofs.YthbjgfennclidaaGreat
set_option linter.unusedVariables false
set_option linter.unusedSimpArgs false
set_option maxRecDepth 100000
open Go.RowKit
abbrev frV (f : Fr) (u : Value) : Value := .agg #[u, .int .i64 (f.v 0), .int .i64 (f.v 1), .int .i64 (f.v 2), .int .i64 (f.v 3), .int .i64 (f.v 4), .int .i64 (f.v 5), .int .i64 (f.v 6), .int .i64 (f.v 7)]
theorem any_takeF {P : Fr → Bool} {l : List Fr} {k : Nat} {f : Fr} (hf : l[k]? = some f) (h : (l.take k).any P = false) (hs : P f = false) : (l.take (k + 1)).any P = false := by
  rw [takeT hf, List.any_append, h]; simp [hs]
theorem any_hitF {P : Fr → Bool} {l : List Fr} {k : Nat} {f : Fr} (hf : l[k]? = some f) (hs : P f = true) : l.any P = true := List.any_eq_true.2 ⟨f, List.mem_of_getElem? hf, hs⟩
def AfRel (P : Fr → Bool) (l : List Fr) (n : Nat) (w0 : World) (i : Value) (wr : World) : Prop := ∃ k : Nat, k ≤ n ∧ i = .int .i64 k ∧ Hid ((l.take k).any P = false) ∧ Hid (Below w0.heap.size w0 wr)
set_option maxHeartbeats 2000000 in
theorem indexH_calls (P : Fr → Bool) (l : List Fr) (v : Value) (bx bi : Nat) (w : World) (hR : FrW w l v) (C : ∀ w', Below w.heap.size w w' → ∀ (k : Nat) (f : Fr) (u : Value), l[k]? = some f → TxW w' f.ids u → Calls Tryz.prog 170 #[frV f u, .pointer (some ⟨bx, 0, none⟩), .pointer (some ⟨bi, 0, none⟩)] w' fun e w'' => e = .returned (.bool (P f)) ∧ Below w'.heap.size w' w'') :
    Calls Tryz.prog 148 #[v, .func (Fn.func 170) #[] #[.pointer (some ⟨bx, 0, none⟩), .pointer (some ⟨bi, 0, none⟩)]] w fun e w' => ∃ n : Int, e = .returned (.int .i64 n) ∧ decide (0 ≤ n) = l.any P ∧ Below w.heap.size w w' := by
  obtain ⟨U, oa, cap, b, o, rfl, hF⟩ := hR
  have h1 := hF.len
  have h2 := hF.max
  unfold maxLen at h2
  have HF := Lib.hid hF
  have HC := Lib.hid C
  clear hF C
  generalize hn : l.length = n at *
  have HN := Lib.hid hn
  clear hn
  go_enter Tryz.func148, Tryz.ntmps148
  go_wp2_with fail
  go_loopw [8] (fun i wr => AfRel P l n w i wr) (fun i _ => n - (intOf i).toNat)
  case atStart => exact ⟨0, Nat.zero_le _, rfl, by simp [Hid], Lib.hid (Below.refl _ _)⟩
  case round =>
    obtain ⟨k, hk, rfl, HS, HB⟩ := hrel
    by_cases hlt : k < n
    · obtain ⟨f, hf⟩ : ∃ f, l[k]? = some f := ⟨_, List.getElem?_eq_getElem (by rw [HN.out]; exact hlt)⟩
      obtain ⟨rfl, hb⟩ := HF.out.at0 (by rw [HN.out]; omega)
      have FL := HF.out.later HB.out (Nat.le_refl _)
      obtain ⟨c0, c1, c2, c3, c4, c5, c6, c7, c8⟩ := fc_cells (w := wr) (fun j u hu => FL.cell k f hf j u hu)
      have zb : b < wr.heap.size := Nat.lt_of_lt_of_le hb HB.out.size
      have CC := Lib.hid (HC.out wr HB.out k f (U k) hf (FL.ids k f hf))
      have HX := Lib.hid hf
      obtain ⟨ou, cu, hU⟩ := (HF.out.ids k f hf).val
      rw [hU] at c0 CC
      clear FL hf hU
      cases hs : P f
      · rw [hs] at CC
        have HY := Lib.hid (any_takeF HX.out HS.out hs)
        clear HS
        go_wp2_with (go_at_call 170; refine CC.out.mono ?_; rintro e w' ⟨rfl, hb'⟩)
        go_roundw
        case rel => exact ⟨k + 1, by omega, by go_num, HY, Lib.hid (HB.out.trans (hb'.mono HB.out.size))⟩
        case measure => simp [intOf]; omega
      · rw [hs] at CC
        have HY := Lib.hid (any_hitF HX.out hs)
        clear HS
        go_wp2_with (go_at_call 170; refine CC.out.mono ?_; rintro e w' ⟨rfl, hb'⟩)
        go_ret
        exact ⟨_, rfl, by rw [HY.out]; simp, HB.out.trans (hb'.mono HB.out.size)⟩
    · have h := HS.out
      rw [List.take_of_length_le (by rw [HN.out]; omega)] at h
      have HY := Lib.hid h
      clear h HS
      go_wp2_with fail
      go_ret
      exact ⟨_, rfl, by rw [HY.out]; simp, HB.out⟩
set_option maxHeartbeats 1000000 in
theorem containsH_calls (P : Fr → Bool) (l : List Fr) (v : Value) (bx bi : Nat) (w : World) (hR : FrW w l v) (C : ∀ w', Below w.heap.size w w' → ∀ (k : Nat) (f : Fr) (u : Value), l[k]? = some f → TxW w' f.ids u → Calls Tryz.prog 170 #[frV f u, .pointer (some ⟨bx, 0, none⟩), .pointer (some ⟨bi, 0, none⟩)] w' fun e w'' => e = .returned (.bool (P f)) ∧ Below w'.heap.size w' w'') :
    Calls Tryz.prog 96 #[v, .func (Fn.func 170) #[] #[.pointer (some ⟨bx, 0, none⟩), .pointer (some ⟨bi, 0, none⟩)]] w fun e w' => e = .returned (.bool (l.any P)) ∧ Below w.heap.size w w' := by
  have D := Lib.hid (indexH_calls P l v bx bi w hR C)
  obtain ⟨oa, cap, rfl⟩ := hR.val
  clear hR C
  go_enter Tryz.func96, Tryz.ntmps96
  go_wp2_with (go_at_call 148; refine D.out.mono ?_; rintro e w' ⟨n, rfl, hn, hb⟩)
  go_ret
  first | exact ⟨ret_bool hn, hb⟩ | exact ⟨rfl, hb⟩
set_option maxHeartbeats 2000000 in
theorem indexD_calls (P : Fr → Bool) (l : List Fr) (v : Value) (w : World) (hR : FrW w l v) (C : ∀ w', Below w.heap.size w w' → ∀ (k : Nat) (f : Fr) (u : Value), l[k]? = some f → TxW w' f.ids u → Calls Tryz.prog 97 #[frV f u] w' fun e w'' => e = .returned (.bool (P f)) ∧ Below w'.heap.size w' w'') :
    Calls Tryz.prog 148 #[v, .func (Fn.func 97) #[] #[]] w fun e w' => ∃ n : Int, e = .returned (.int .i64 n) ∧ decide (0 ≤ n) = l.any P ∧ Below w.heap.size w w' := by
  obtain ⟨U, oa, cap, b, o, rfl, hF⟩ := hR
  have h1 := hF.len
  have h2 := hF.max
  unfold maxLen at h2
  have HF := Lib.hid hF
  have HC := Lib.hid C
  clear hF C
  generalize hn : l.length = n at *
  have HN := Lib.hid hn
  clear hn
  go_enter Tryz.func148, Tryz.ntmps148
  go_wp2_with fail
  go_loopw [8] (fun i wr => AfRel P l n w i wr) (fun i _ => n - (intOf i).toNat)
  case atStart => exact ⟨0, Nat.zero_le _, rfl, by simp [Hid], Lib.hid (Below.refl _ _)⟩
  case round =>
    obtain ⟨k, hk, rfl, HS, HB⟩ := hrel
    by_cases hlt : k < n
    · obtain ⟨f, hf⟩ : ∃ f, l[k]? = some f := ⟨_, List.getElem?_eq_getElem (by rw [HN.out]; exact hlt)⟩
      obtain ⟨rfl, hb⟩ := HF.out.at0 (by rw [HN.out]; omega)
      have FL := HF.out.later HB.out (Nat.le_refl _)
      obtain ⟨c0, c1, c2, c3, c4, c5, c6, c7, c8⟩ := fc_cells (w := wr) (fun j u hu => FL.cell k f hf j u hu)
      have zb : b < wr.heap.size := Nat.lt_of_lt_of_le hb HB.out.size
      have CC := Lib.hid (HC.out wr HB.out k f (U k) hf (FL.ids k f hf))
      have HX := Lib.hid hf
      obtain ⟨ou, cu, hU⟩ := (HF.out.ids k f hf).val
      rw [hU] at c0 CC
      clear FL hf hU
      cases hs : P f
      · rw [hs] at CC
        have HY := Lib.hid (any_takeF HX.out HS.out hs)
        clear HS
        go_wp2_with (go_at_call 97; refine CC.out.mono ?_; rintro e w' ⟨rfl, hb'⟩)
        go_roundw
        case rel => exact ⟨k + 1, by omega, by go_num, HY, Lib.hid (HB.out.trans (hb'.mono HB.out.size))⟩
        case measure => simp [intOf]; omega
      · rw [hs] at CC
        have HY := Lib.hid (any_hitF HX.out hs)
        clear HS
        go_wp2_with (go_at_call 97; refine CC.out.mono ?_; rintro e w' ⟨rfl, hb'⟩)
        go_ret
        exact ⟨_, rfl, by rw [HY.out]; simp, HB.out.trans (hb'.mono HB.out.size)⟩
    · have h := HS.out
      rw [List.take_of_length_le (by rw [HN.out]; omega)] at h
      have HY := Lib.hid h
      clear h HS
      go_wp2_with fail
      go_ret
      exact ⟨_, rfl, by rw [HY.out]; simp, HB.out⟩
set_option maxHeartbeats 1000000 in
theorem containsD_calls (P : Fr → Bool) (l : List Fr) (v : Value) (w : World) (hR : FrW w l v) (C : ∀ w', Below w.heap.size w w' → ∀ (k : Nat) (f : Fr) (u : Value), l[k]? = some f → TxW w' f.ids u → Calls Tryz.prog 97 #[frV f u] w' fun e w'' => e = .returned (.bool (P f)) ∧ Below w'.heap.size w' w'') :
    Calls Tryz.prog 96 #[v, .func (Fn.func 97) #[] #[]] w fun e w' => e = .returned (.bool (l.any P)) ∧ Below w.heap.size w w' := by
  have D := Lib.hid (indexD_calls P l v w hR C)
  obtain ⟨oa, cap, rfl⟩ := hR.val
  clear hR C
  go_enter Tryz.func96, Tryz.ntmps96
  go_wp2_with (go_at_call 148; refine D.out.mono ?_; rintro e w' ⟨n, rfl, hn, hb⟩)
  go_ret
  first | exact ⟨ret_bool hn, hb⟩ | exact ⟨rfl, hb⟩
/-! ### The closures -/
set_option maxHeartbeats 1000000 in
theorem has1_calls (f : Fr) (u : Value) (r c : Int) (id : ByteArray) (bx bi : Nat) (w : World) (hT : TxW w f.ids u) (hx : Own w bx #[.int .i64 r, .int .i64 c] 66) (hi : Own w bi #[.string id] 9) :
    Calls Tryz.prog 170 #[frV f u, .pointer (some ⟨bx, 0, none⟩), .pointer (some ⟨bi, 0, none⟩)] w fun e w' => e = .returned (.bool (hasFr id r c f)) ∧ Below w.heap.size w w' := by
  obtain ⟨ou, cu, rfl⟩ := hT.val
  have B0 : Below w.heap.size w (w.alloc (.cells #[.slice ou f.ids.length cu, .int .i64 (f.v 0), .int .i64 (f.v 1), .int .i64 (f.v 2), .int .i64 (f.v 3), .int .i64 (f.v 4), .int .i64 (f.v 5), .int .i64 (f.v 6), .int .i64 (f.v 7)] 125)) := (Below.refl _ _).alloc (Nat.le_refl _) _
  have G1 := Lib.hid (Own.new w #[.slice ou f.ids.length cu, .int .i64 (f.v 0), .int .i64 (f.v 1), .int .i64 (f.v 2), .int .i64 (f.v 3), .int .i64 (f.v 4), .int .i64 (f.v 5), .int .i64 (f.v 6), .int .i64 (f.v 7)] 125)
  have lx := (hx.later B0).cell
  have zx := (hx.later B0).lt
  have l1 := G1.out.cell
  have z1 := G1.out.lt
  have CH := Lib.hid (vecHas_calls f.v r c (w.alloc (.cells #[.slice ou f.ids.length cu, .int .i64 (f.v 0), .int .i64 (f.v 1), .int .i64 (f.v 2), .int .i64 (f.v 3), .int .i64 (f.v 4), .int .i64 (f.v 5), .int .i64 (f.v 6), .int .i64 (f.v 7)] 125)))
  have HB0 := Lib.hid B0
  have HI := Lib.hid (hi.later B0)
  have HT := Lib.hid (hT.later B0 (Nat.le_refl _))
  have e : hasFr id r c f = (hasV f.v r c && amongB f.ids id) := by unfold hasFr; rw [Bool.and_comm]
  rw [e]
  clear e B0 hT hx hi
  cases hh : hasV f.v r c
  · rw [hh] at CH
    go_enter Tryz.func170, Tryz.ntmps170
    go_wp2_with (go_at_call 169; refine CH.out.mono ?_; rintro e w3 ⟨rfl, hb3⟩)
    go_ret
    exact ⟨rfl, HB0.out.trans (hb3.mono HB0.out.size)⟩
  · rw [hh] at CH
    rw [Bool.true_and]
    go_enter Tryz.func170, Tryz.ntmps170
    go_wp2_with (first
      | (go_at_call 169; refine CH.out.mono ?_; rintro e w3 ⟨rfl, hb3⟩; have l13 := (G1.out.later hb3).cell; have z13 := (G1.out.later hb3).lt; have li3 := (HI.out.later hb3).cell; have zi3 := (HI.out.later hb3).lt; have HT3 := Lib.hid (containsT_calls f.ids _ id w3 (HT.out.later hb3 (Nat.le_refl _))))
      | (go_at_call 171; refine HT3.out.mono ?_; rintro e w4 ⟨rfl, rfl⟩)
      | fail)
    go_ret
    exact ⟨rfl, HB0.out.trans (hb3.mono HB0.out.size)⟩
def oddB (f : Fr) : Bool := !mayV f.v || f.ids.any fun s => !nameB s
set_option maxHeartbeats 1000000 in
theorem odd_calls (f : Fr) (u : Value) (w : World) (hT : TxW w f.ids u) :
    Calls Tryz.prog 97 #[frV f u] w fun e w' => e = .returned (.bool (oddB f)) ∧ Below w.heap.size w w' := by
  obtain ⟨ou, cu, rfl⟩ := hT.val
  have B0 : Below w.heap.size w (w.alloc (.cells #[.slice ou f.ids.length cu, .int .i64 (f.v 0), .int .i64 (f.v 1), .int .i64 (f.v 2), .int .i64 (f.v 3), .int .i64 (f.v 4), .int .i64 (f.v 5), .int .i64 (f.v 6), .int .i64 (f.v 7)] 125)) := (Below.refl _ _).alloc (Nat.le_refl _) _
  have G1 := Lib.hid (Own.new w #[.slice ou f.ids.length cu, .int .i64 (f.v 0), .int .i64 (f.v 1), .int .i64 (f.v 2), .int .i64 (f.v 3), .int .i64 (f.v 4), .int .i64 (f.v 5), .int .i64 (f.v 6), .int .i64 (f.v 7)] 125)
  have l1 := G1.out.cell
  have z1 := G1.out.lt
  have CH := Lib.hid (vecMay_calls f.v (w.alloc (.cells #[.slice ou f.ids.length cu, .int .i64 (f.v 0), .int .i64 (f.v 1), .int .i64 (f.v 2), .int .i64 (f.v 3), .int .i64 (f.v 4), .int .i64 (f.v 5), .int .i64 (f.v 6), .int .i64 (f.v 7)] 125)))
  have HB0 := Lib.hid B0
  have HT := Lib.hid (hT.later B0 (Nat.le_refl _))
  unfold oddB
  clear B0 hT
  cases hh : mayV f.v
  · rw [hh] at CH
    go_enter Tryz.func97, Tryz.ntmps97
    go_wp2_with (go_at_call 95; refine CH.out.mono ?_; rintro e w3 ⟨rfl, hb3⟩)
    go_ret
    exact ⟨rfl, HB0.out.trans (hb3.mono HB0.out.size)⟩
  · rw [hh] at CH
    rw [Bool.not_true, Bool.false_or]
    go_enter Tryz.func97, Tryz.ntmps97
    go_wp2_with (first
      | (go_at_call 95; refine CH.out.mono ?_; rintro e w3 ⟨rfl, hb3⟩; have l13 := (G1.out.later hb3).cell; have z13 := (G1.out.later hb3).lt; have HT3 := Lib.hid (containsO_calls f.ids _ w3 (HT.out.later hb3 (Nat.le_refl _))))
      | (go_at_call 149; refine HT3.out.mono ?_; rintro e w4 ⟨rfl, rfl⟩)
      | fail)
    go_ret
    exact ⟨rfl, HB0.out.trans (hb3.mono HB0.out.size)⟩
set_option maxHeartbeats 2000000 in
theorem kequal1_calls (f g : Fr) (u t : Value) (w : World) (hT : TxW w f.ids u) (hM : TxW w g.ids t) :
    Calls Tryz.prog 152 #[frV f u, frV g t] w fun e w' => e = .returned (.bool (eqFr f g)) ∧ Below w.heap.size w w' := by
  obtain ⟨ou, cu, rfl⟩ := hT.val
  obtain ⟨ot, ct, rfl⟩ := hM.val
  have B0 : Below w.heap.size w ((w.alloc (.cells #[.slice ou f.ids.length cu, .int .i64 (f.v 0), .int .i64 (f.v 1), .int .i64 (f.v 2), .int .i64 (f.v 3), .int .i64 (f.v 4), .int .i64 (f.v 5), .int .i64 (f.v 6), .int .i64 (f.v 7)] 125)).alloc (.cells #[.slice ot g.ids.length ct, .int .i64 (g.v 0), .int .i64 (g.v 1), .int .i64 (g.v 2), .int .i64 (g.v 3), .int .i64 (g.v 4), .int .i64 (g.v 5), .int .i64 (g.v 6), .int .i64 (g.v 7)] 125)) := ((Below.refl _ _).alloc (Nat.le_refl _) _).alloc (by simp) _
  have G1 := Lib.hid ((Own.new w #[.slice ou f.ids.length cu, .int .i64 (f.v 0), .int .i64 (f.v 1), .int .i64 (f.v 2), .int .i64 (f.v 3), .int .i64 (f.v 4), .int .i64 (f.v 5), .int .i64 (f.v 6), .int .i64 (f.v 7)] 125).alloc (.cells #[.slice ot g.ids.length ct, .int .i64 (g.v 0), .int .i64 (g.v 1), .int .i64 (g.v 2), .int .i64 (g.v 3), .int .i64 (g.v 4), .int .i64 (g.v 5), .int .i64 (g.v 6), .int .i64 (g.v 7)] 125))
  have G2 := Lib.hid (Own.newAt (w.alloc (.cells #[.slice ou f.ids.length cu, .int .i64 (f.v 0), .int .i64 (f.v 1), .int .i64 (f.v 2), .int .i64 (f.v 3), .int .i64 (f.v 4), .int .i64 (f.v 5), .int .i64 (f.v 6), .int .i64 (f.v 7)] 125)) #[.slice ot g.ids.length ct, .int .i64 (g.v 0), .int .i64 (g.v 1), .int .i64 (g.v 2), .int .i64 (g.v 3), .int .i64 (g.v 4), .int .i64 (g.v 5), .int .i64 (g.v 6), .int .i64 (g.v 7)] 125 (b := w.heap.size + 1) (by simp))
  have l1 := G1.out.cell
  have z1 := G1.out.lt
  have l2 := G2.out.cell
  have z2 := G2.out.lt
  have HB0 := Lib.hid B0
  have CE := Lib.hid (equalT_calls f.ids g.ids _ _ _ (hT.later B0 (Nat.le_refl _)) (hM.later B0 (Nat.le_refl _)))
  have hq := fun w' => show (Op.equalIn 10000 28 (.agg #[.int .i64 (f.v 0), .int .i64 (f.v 1), .int .i64 (f.v 2), .int .i64 (f.v 3), .int .i64 (f.v 4), .int .i64 (f.v 5), .int .i64 (f.v 6), .int .i64 (f.v 7)]) (.agg #[.int .i64 (g.v 0), .int .i64 (g.v 1), .int .i64 (g.v 2), .int .i64 (g.v 3), .int .i64 (g.v 4), .int .i64 (g.v 5), .int .i64 (g.v 6), .int .i64 (g.v 7)])).run Tryz.prog w' = .ok (eqV f.v g.v) w' from eqVec7 f.v g.v w'
  unfold eqFr
  clear B0 hT hM
  cases hh : eqV f.v g.v
  · rw [hh] at hq
    go_enter Tryz.func152, Tryz.ntmps152
    go_wp2_with fail
    go_ret
    exact ⟨rfl, HB0.out⟩
  · rw [hh] at hq
    rw [Bool.true_and]
    go_enter Tryz.func152, Tryz.ntmps152
    go_wp2_with (go_at_call 153; refine CE.out.mono ?_; rintro e w3 ⟨rfl, hb3⟩)
    go_ret
    exact ⟨rfl, HB0.out.trans (hb3.mono HB0.out.size)⟩
/-! ### Two lists of pieces, alike -/
theorem keqFrs_all : ∀ {l m : List Fr}, l.length = m.length → (∀ (j : Nat) (f g : Fr), l[j]? = some f → m[j]? = some g → eqFr f g = true) → eqFrs l m = true
  | [], [], _, _ => rfl
  | [], b :: m, h, _ => by simp at h
  | a :: l, [], h, _ => by simp at h
  | a :: l, b :: m, h, hh => by
    rw [eqFrs, hh 0 a b rfl rfl, Bool.true_and]
    exact keqFrs_all (by simpa using h) fun j f g hf hg => hh (j + 1) f g (by simpa using hf) (by simpa using hg)
theorem keqFrs_no : ∀ {l m : List Fr} {j : Nat} {f g : Fr}, l[j]? = some f → m[j]? = some g → eqFr f g = false → eqFrs l m = false
  | [], m, j, f, g, h, _, _ => by simp at h
  | a :: l, [], j, f, g, _, h, _ => by simp at h
  | a :: l, b :: m, 0, f, g, h, h', hq => by
    simp at h h'; subst h h'
    rw [eqFrs, hq, Bool.false_and]
  | a :: l, b :: m, j + 1, f, g, h, h', hq => by
    rw [eqFrs, keqFrs_no (l := l) (m := m) (by simpa using h) (by simpa using h') hq, Bool.and_false]
theorem keqFrs_len : ∀ {l m : List Fr}, l.length ≠ m.length → eqFrs l m = false
  | [], [], h => by simp at h
  | [], b :: m, _ => by simp [eqFrs]
  | a :: l, [], _ => by simp [eqFrs]
  | a :: l, b :: m, h => by rw [eqFrs, keqFrs_len (l := l) (m := m) (by simpa using h), Bool.and_false]
def EfRel (l m : List Fr) (n : Nat) (w0 : World) (i : Value) (wr : World) : Prop := ∃ k : Nat, k ≤ n ∧ i = .int .i64 k ∧ Hid (∀ (j : Nat) (f g : Fr), j < k → l[j]? = some f → m[j]? = some g → eqFr f g = true) ∧ Hid (Below w0.heap.size w0 wr)
set_option maxRecDepth 100000 in
set_option maxHeartbeats 4000000 in
theorem equalF_calls (l m : List Fr) (v v' : Value) (w : World) (hR : FrW w l v) (hM : FrW w m v') :
    Calls Tryz.prog 151 #[v, v', .func (Fn.func 152) #[] #[]] w fun e w' => e = .returned (.bool (eqFrs l m)) ∧ Below w.heap.size w w' := by
  obtain ⟨U, oa, cap, b, o, rfl, hT⟩ := hR
  obtain ⟨V, oa', cap', b', o', rfl, hM⟩ := hM
  have h1 := hT.len
  have h2 := hT.max
  have h1' := hM.len
  have h2' := hM.max
  unfold maxLen at h2 h2'
  have HT := Lib.hid hT
  have HM := Lib.hid hM
  clear hT hM
  by_cases hl : l.length = m.length
  · rw [← hl] at h1' ⊢
    have HL := Lib.hid hl
    clear hl
    have hne : ((l.length : Int) == (l.length : Int)) = true := by simp
    generalize hn : l.length = n at *
    have HN := Lib.hid hn
    clear hn
    go_enter Tryz.func151, Tryz.ntmps151
    go_wp2_with fail
    go_loopw [17] (fun i wr => EfRel l m n w i wr) (fun i _ => n - (intOf i).toNat)
    case atStart => exact ⟨0, Nat.zero_le _, rfl, Lib.hid fun j f g hj => absurd hj (by omega), Lib.hid (Below.refl _ _)⟩
    case round =>
      obtain ⟨k, hk, rfl, HS, HB⟩ := hrel
      by_cases hlt : k < n
      · obtain ⟨f, hf⟩ : ∃ f, l[k]? = some f := ⟨_, List.getElem?_eq_getElem (by rw [HN.out]; exact hlt)⟩
        obtain ⟨g, hg⟩ : ∃ g, m[k]? = some g := ⟨_, List.getElem?_eq_getElem (by rw [← HL.out]; exact hlt)⟩
        obtain ⟨rfl, hb⟩ := HT.out.at0 (by rw [HN.out]; omega)
        obtain ⟨rfl, hb'⟩ := HM.out.at0 (by rw [← HL.out]; omega)
        have FL := HT.out.later HB.out (Nat.le_refl _)
        obtain ⟨c0, c1, c2, c3, c4, c5, c6, c7, c8⟩ := fc_cells (w := wr) (fun j u hu => FL.cell k f hf j u hu)
        have GL := HM.out.later HB.out (Nat.le_refl _)
        obtain ⟨d0, d1, d2, d3, d4, d5, d6, d7, d8⟩ := fc_cells (w := wr) (fun j u hu => GL.cell k g hg j u hu)
        have z0 : b < wr.heap.size := Nat.lt_of_lt_of_le hb HB.out.size
        have z1 : b' < wr.heap.size := Nat.lt_of_lt_of_le hb' HB.out.size
        have HX := Lib.hid hf
        have HY := Lib.hid hg
        obtain ⟨ou, cu, hU⟩ := (HT.out.ids k f hf).val
        obtain ⟨ot, ct, hV⟩ := (HM.out.ids k g hg).val
        have TU := FL.ids k f hf
        have TV := GL.ids k g hg
        rw [hU] at c0 TU
        rw [hV] at d0 TV
        have B2 : Below wr.heap.size wr ((wr.alloc (.cells #[.slice ou f.ids.length cu, .int .i64 (f.v 0), .int .i64 (f.v 1), .int .i64 (f.v 2), .int .i64 (f.v 3), .int .i64 (f.v 4), .int .i64 (f.v 5), .int .i64 (f.v 6), .int .i64 (f.v 7)] 125)).alloc (.cells #[.slice ot g.ids.length ct, .int .i64 (g.v 0), .int .i64 (g.v 1), .int .i64 (g.v 2), .int .i64 (g.v 3), .int .i64 (g.v 4), .int .i64 (g.v 5), .int .i64 (g.v 6), .int .i64 (g.v 7)] 125)) := ((Below.refl _ _).alloc (Nat.le_refl _) _).alloc (by simp) _
        have CC := Lib.hid (kequal1_calls f g _ _ _ (TU.later B2 (Nat.le_refl _)) (TV.later B2 (Nat.le_refl _)))
        have HB2 := Lib.hid (HB.out.trans (B2.mono HB.out.size))
        have k0 : (0 : Int) ≤ (k : Int) := by omega
        have k1 : (k : Int) < (n : Int) := by omega
        clear FL GL hf hg hU hV TU TV B2 hb hb'
        cases hs : eqFr f g
        · rw [hs] at CC
          have HF := Lib.hid (keqFrs_no HX.out HY.out hs)
          go_wp2_with (go_at_call 152; refine CC.out.mono ?_; rintro e w' ⟨rfl, hb'⟩)
          go_ret
          exact ⟨ret_bool HF.out.symm, HB2.out.trans (hb'.mono HB2.out.size)⟩
        · rw [hs] at CC
          have HF := Lib.hid (show ∀ (j : Nat) (p q : Fr), j < k + 1 → l[j]? = some p → m[j]? = some q → eqFr p q = true from fun j p q hj hp hq => by
            by_cases e : j = k
            · subst e; rw [HX.out] at hp; rw [HY.out] at hq; cases hp; cases hq; exact hs
            · exact HS.out j p q (by omega) hp hq)
          go_wp2_with (go_at_call 152; refine CC.out.mono ?_; rintro e w' ⟨rfl, hb'⟩)
          go_roundw
          case rel => exact ⟨k + 1, by omega, by go_num, HF, Lib.hid (HB2.out.trans (hb'.mono HB2.out.size))⟩
          case measure => simp [intOf]; omega
      · have HF := Lib.hid (keqFrs_all (l := l) (m := m) (by rw [HN.out]; exact HL.out) fun j f g hf hg => HS.out j f g (by have := posA hf; rw [HN.out] at this; omega) hf hg)
        go_wp2_with fail
        go_ret
        exact ⟨ret_bool HF.out.symm, HB.out⟩
  · have HF := Lib.hid (keqFrs_len hl)
    have hne : ((l.length : Int) == (m.length : Int)) = false := by simp; omega
    clear hl
    go_enter Tryz.func151, Tryz.ntmps151
    go_wp2_with fail
    go_ret
    exact ⟨ret_bool HF.out.symm, Below.refl _ _⟩
/-! ### equal -/
set_option maxHeartbeats 2000000 in
theorem kEqual_calls (a c : Kn) (v v' : Value) (w : World) (hR : FrW w a.l v) (hM : FrW w c.l v') :
    Calls Tryz.prog 98 #[knV a.star v, knV c.star v'] w fun e w' => e = .returned (.bool (alikeK a c)) ∧ Below w.heap.size w w' := by
  obtain ⟨ou, cu, rfl⟩ := hR.val
  obtain ⟨ot, ct, rfl⟩ := hM.val
  unfold alikeK
  obtain ⟨A, l⟩ := a
  obtain ⟨B, m⟩ := c
  simp only at *
  have B0 : Below w.heap.size w ((w.alloc (.cells (knA A (.slice ou l.length cu)) 31)).alloc (.cells (knA B (.slice ot m.length ct)) 31)) := ((Below.refl _ _).alloc (Nat.le_refl _) _).alloc (by simp) _
  have G1 := Lib.hid ((Own.new w (knA A (.slice ou l.length cu)) 31).alloc (.cells (knA B (.slice ot m.length ct)) 31))
  have G2 := Lib.hid (Own.newAt (w.alloc (.cells (knA A (.slice ou l.length cu)) 31)) (knA B (.slice ot m.length ct)) 31 (b := w.heap.size + 1) (by simp))
  have l1 := G1.out.cell
  have z1 := G1.out.lt
  have l2 := G2.out.cell
  have z2 := G2.out.lt
  have HB0 := Lib.hid B0
  have CE := Lib.hid (equalF_calls l m _ _ _ (hR.later B0 (Nat.le_refl _)) (hM.later B0 (Nat.le_refl _)))
  have hq := fun w' => show (Op.equalIn 10000 28 (.agg #[.int .i64 (A 0), .int .i64 (A 1), .int .i64 (A 2), .int .i64 (A 3), .int .i64 (A 4), .int .i64 (A 5), .int .i64 (A 6), .int .i64 (A 7)]) (.agg #[.int .i64 (B 0), .int .i64 (B 1), .int .i64 (B 2), .int .i64 (B 3), .int .i64 (B 4), .int .i64 (B 5), .int .i64 (B 6), .int .i64 (B 7)])).run Tryz.prog w' = .ok (eqV A B) w' from eqVec7 A B w'
  clear B0 hR hM
  cases hh : eqV A B
  · rw [hh] at hq
    go_enter Tryz.func98, Tryz.ntmps98
    go_wp2_with fail
    go_ret
    exact ⟨rfl, HB0.out⟩
  · rw [hh] at hq
    rw [Bool.true_and]
    go_enter Tryz.func98, Tryz.ntmps98
    go_wp2_with (go_at_call 151; refine CE.out.mono ?_; rintro e w3 ⟨rfl, hb3⟩)
    go_ret
    exact ⟨rfl, HB0.out.trans (hb3.mono HB0.out.size)⟩
end Go.Proofs.YthbjgfennclidaaGreat
/- The code's Has and With of what is known, walked. -/
namespace Go.Proofs.YthbjgfennclidaaGreat
set_option linter.unusedVariables false
set_option linter.unusedSimpArgs false
set_option maxRecDepth 100000
open Go.RowKit
set_option maxRecDepth 100000 in
set_option maxHeartbeats 2000000 in
theorem knowHas_calls (K : Kn) (id : ByteArray) (r c : Int) (v : Value) (w : World) (hR : FrW w K.l v) (hid : id.size ≤ maxLen) :
    Calls Tryz.prog 113 #[knV K.star v, .string id, .agg #[.int .i64 r, .int .i64 c]] w fun e w' => e = .returned (.bool (hasK K id r c)) ∧ Below w.heap.size w w' := by
  obtain ⟨ov, cv, rfl⟩ := hR.val
  unfold hasK
  obtain ⟨A, l⟩ := K
  simp only at *
  have G1 := Lib.hid (((Own.new w (knA A (.slice ov l.length cv)) 31).alloc (.cells #[.string id] 9)).alloc (.cells #[.int .i64 r, .int .i64 c] 66))
  have G2 := Lib.hid ((Own.newAt (w.alloc (.cells (knA A (.slice ov l.length cv)) 31)) #[.string id] 9 (b := w.heap.size + 1) (by simp)).alloc (.cells #[.int .i64 r, .int .i64 c] 66))
  have G3 := Lib.hid (Own.newAt ((w.alloc (.cells (knA A (.slice ov l.length cv)) 31)).alloc (.cells #[.string id] 9)) #[.int .i64 r, .int .i64 c] 66 (b := w.heap.size + 1 + 1) (by simp))
  have HB0 := Lib.hid ((((Below.refl w.heap.size w).alloc (Nat.le_refl _) (.cells (knA A (.slice ov l.length cv)) 31)).alloc (by simp) (.cells #[.string id] 9)).alloc (by simp; omega) (.cells #[.int .i64 r, .int .i64 c] 66))
  have HR := Lib.hid (hR.later HB0.out (Nat.le_refl _))
  have CH := fun w' => Lib.hid (vecHas_calls A r c w')
  clear hR
  cases hh : hasV A r c
  · have CD := fun w' h => Lib.hid (containsH_calls (hasFr id r c) l (.slice ov l.length cv) (w.heap.size + 1 + 1) (w.heap.size + 1) w' h)
    rw [Bool.false_or]
    go_enter Tryz.func113, Tryz.ntmps113
    go_upto_region 1 with fail
    generalize ((w.alloc (.cells (knA A (.slice ov l.length cv)) 31)).alloc (.cells #[.string id] 9)).alloc (.cells #[.int .i64 r, .int .i64 c] 66) = W at *
    have l1 := G1.out.cell
    have z1 := G1.out.lt
    have l3 := G3.out.cell
    have z3 := G3.out.lt
    have CH1 := CH W
    rw [hh] at CH1
    go_wp2_with (first
      | (go_at_call 169; refine CH1.out.mono ?_; rintro e w3 ⟨rfl, hb3⟩; have l13 := (G1.out.later hb3).cell; have z13 := (G1.out.later hb3).lt; have D := Lib.hid ((CD w3 (HR.out.later hb3 (Nat.le_refl _))).out fun w' hb' k f u hf hu => has1_calls f u r c id _ _ w' hu ((G3.out.later hb3).later hb') ((G2.out.later hb3).later hb')))
      | (go_at_call 96; refine D.out.mono ?_; rintro e w4 ⟨rfl, hb4⟩)
      | fail)
    go_ret
    exact ⟨rfl, HB0.out.trans ((hb3.trans (hb4.mono hb3.size)).mono HB0.out.size)⟩
  · rw [Bool.true_or]
    go_enter Tryz.func113, Tryz.ntmps113
    go_upto_region 1 with fail
    generalize ((w.alloc (.cells (knA A (.slice ov l.length cv)) 31)).alloc (.cells #[.string id] 9)).alloc (.cells #[.int .i64 r, .int .i64 c] 66) = W at *
    have l1 := G1.out.cell
    have z1 := G1.out.lt
    have l3 := G3.out.cell
    have z3 := G3.out.lt
    have CH1 := CH W
    rw [hh] at CH1
    go_wp2_with (go_at_call 169; refine CH1.out.mono ?_; rintro e w3 ⟨rfl, hb3⟩)
    go_ret
    exact ⟨rfl, HB0.out.trans (hb3.mono HB0.out.size)⟩
end Go.Proofs.YthbjgfennclidaaGreat
/- The code's local: within, the closures that look at a state, slices.ContainsFunc over them. Walked. -/
namespace Go.Proofs.YthbjgfennclidaaGreat
set_option linter.unusedVariables false
set_option linter.unusedSimpArgs false
set_option maxRecDepth 100000
open Go.RowKit
theorem wpList_load_mid_g {P : Program} {ops : Array Oper} {rest : List Oper} {op : Oper} {a : Act} {w : World} {Q : Exit → Act → World → Prop} (hw : Region.wanted op (yielded ops a.tmps) = true) (ty : TypeId) (x : Operand) (ho : op.op = .load ty x)
    (b o : Nat) (hx : a.eval x = .pointer (some ⟨b, o, none⟩)) (cs : List Value) (d : TypeDesc) (hc : w.rangeAt b o cs)
    (hu : P.underlying ty = some d) (hd : d.isRow = true) (hi : (P.info? ty).map (·.size) = some cs.length)
    (h : wpList P ops Q rest (a.put op.dst (.agg cs.toArray)) w) : wpList P ops Q (op :: rest) a w :=
  wpList_step fun K hK => by rw [if_pos hw]; exact wp_load_mid ty x ho b o hx cs d hc hu hd hi (hK _ _ h)
theorem hasX_calls (x : Itm) (p : Pr) (v : Value) (w : World) (hL : LP w p v) (hx : x.id.size ≤ maxLen) :
    Calls Tryz.prog 112 #[prV p v, iV x] w fun e w' => e = .returned (.bool (hasT p x)) ∧ Below w.heap.size w w' := has_calls x.it x.r x.c x.st x.d hx p v w hL
structure StO (w : World) (s : St) (fv sv ov kv : Value) (b : Nat) : Prop where
  o : Own w b (stA s fv sv ov kv) 52
  w : StW w s fv sv ov kv
theorem StO.later {w w' : World} {s : St} {fv sv ov kv : Value} {b : Nat} (h : StO w s fv sv ov kv b) (hb : Below w.heap.size w w') : StO w' s fv sv ov kv b := ⟨h.o.later hb, h.w.later hb⟩
theorem StO.alloc {w : World} {s : St} {fv sv ov kv : Value} {b : Nat} (h : StO w s fv sv ov kv b) (o : Obj) : StO (w.alloc o) s fv sv ov kv b := ⟨h.o.alloc o, h.w.alloc o⟩
theorem StO.drew {w : World} {s : St} {fv sv ov kv : Value} {b : Nat} (h : StO w s fv sv ov kv b) : StO w.drew s fv sv ov kv b := ⟨h.o.drew, h.w.drew⟩
/-! ### slices.IndexFunc, ContainsFunc of items -/
def FstI (P : Itm → Bool) (l : List Itm) (n : Int) : Prop := (∃ (k : Nat) (x : Itm), l[k]? = some x ∧ P x = true ∧ n = k ∧ (l.take k).any P = false) ∨ (n = -1 ∧ l.any P = false)
theorem FstI.any {P : Itm → Bool} {l : List Itm} {n : Int} (h : FstI P l n) : decide (0 ≤ n) = l.any P := by
  rcases h with ⟨k, x, hx, hp, rfl, _⟩ | ⟨rfl, h⟩
  · rw [List.any_eq_true.2 ⟨x, List.mem_of_getElem? hx, hp⟩]; simp
  · rw [h]; rfl
end Go.Proofs.YthbjgfennclidaaGreat
