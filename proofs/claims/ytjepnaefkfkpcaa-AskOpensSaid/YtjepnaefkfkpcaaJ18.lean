/- Joined: KConc, RefSt3, LocA, RefSt4, RefSt5. -/
import Derived.Test.YtjepnaefkfkpcaaJ10
import Derived.Shelf.Spec.SlicesGrow
import Derived.Lib.AppendZeros
import Derived.Test.YtjepnaefkfkpcaaJ17
import Derived.Test.YtjepnaefkfkpcaaJ14
import Derived.Test.YtjepnaefkfkpcaaJ12
import Derived.Lib.SliceRun
import Derived.Test.YtjepnaefkfkpcaaJ11
/- Pieces of two lists, one behind the other: slices.Concat, walked over the library's contract of slices.Grow, laid at this program. -/
namespace Go.Proofs.Ytjepnaefkfkpcaa
set_option linter.unusedVariables false
set_option linter.unusedSimpArgs false
set_option maxRecDepth 100000
open Go.RowKit
theorem storeNone (a : Addr) (w : World) : (storeCells a []).run Try.prog w = .ok () w := by simp [storeCells]
theorem frCs_news {w : World} {l : List Fr} {U : Nat → Value} {oa : Option Addr} {cap b o : Nat} (h : FrAt w l U oa cap b o) : ∀ j u, (frCs U 0 l)[j]? = some u → w.cell? ((⟨b, o, none⟩ : Addr).add j) = some u := by
  intro j u hu
  have hj : j < (frCs U 0 l).length := (List.getElem?_eq_some_iff.1 hu).1
  rw [frCs_len] at hj
  obtain ⟨i, r, hr, rfl⟩ : ∃ i r, r < 9 ∧ j = i * 9 + r := ⟨j / 9, j % 9, Nat.mod_lt _ (by omega), by omega⟩
  obtain ⟨f, hf⟩ : ∃ f, l[i]? = some f := ⟨_, List.getElem?_eq_getElem (by omega)⟩
  rw [frCs_get U 0 l i f hf r hr, Nat.zero_add] at hu
  have := h.cell i f hf r u hu
  rw [← this]
  by_cases e : i * 9 + r = 0
  · obtain ⟨rfl, rfl⟩ : i = 0 ∧ r = 0 := by omega
    simp [Addr.add]
  · simp only [Addr.add]
    first | rw [if_neg e, Nat.add_assoc] | (rw [Nat.add_assoc]; split <;> first | rfl | omega) | (simp [Nat.add_assoc]; intro h1 h2; omega)
theorem kfrCs_one {w : World} {l : List Fr} {U : Nat → Value} {oa : Option Addr} {cap b o : Nat} (h : FrAt w l U oa cap b o) : ∀ u ∈ frCs U 0 l, u.oneCell' = true := by
  intro u hu
  obtain ⟨j, hj⟩ := List.getElem?_of_mem hu
  have hlt : j < (frCs U 0 l).length := (List.getElem?_eq_some_iff.1 hj).1
  rw [frCs_len] at hlt
  obtain ⟨i, r, hr, rfl⟩ : ∃ i r, r < 9 ∧ j = i * 9 + r := ⟨j / 9, j % 9, Nat.mod_lt _ (by omega), by omega⟩
  obtain ⟨f, hf⟩ : ∃ f, l[i]? = some f := ⟨_, List.getElem?_eq_getElem (by omega)⟩
  rw [frCs_get U 0 l i f hf r hr, Nat.zero_add] at hj
  obtain ⟨oq, cq, e⟩ := (h.ids i f hf).val
  exact oneF f (by rw [e]; rfl) u (List.mem_of_getElem? hj)
theorem rowFr {w : World} {base : Nat} {l : List Fr} {U : Nat → Value} {v : Value} (h : w.ownsRow base 88 9 v l.length (frCs U 0 l)) (hi : ∀ k f, l[k]? = some f → TxW w f.ids (U k)) : FrW w l v := by
  obtain ⟨oa, cap, g, e, h1, h2, hg⟩ := row_slice h
  subst e
  refine ⟨U, oa, cap, g, 0, rfl, h1, h2, fun h0 => ⟨(hg h0).1, (hg h0).2.2⟩, fun k f hf j u hu => ?_, hi⟩
  obtain ⟨rfl, _⟩ := hg (by have := posA hf; omega)
  have hj : j < 9 := (List.getElem?_eq_some_iff.1 hu).1
  have hk := posA hf
  rw [Nat.zero_add, h.cellAt (k * 9 + j) (by omega), frCs_get _ _ _ _ _ hf _ hj, Nat.zero_add]
  exact hu
end Go.Proofs.Ytjepnaefkfkpcaa
/- States: the document's Read and Stands, walked. -/
namespace Go.Proofs.Ytjepnaefkfkpcaa
set_option linter.unusedVariables false
set_option linter.unusedSimpArgs false
set_option maxRecDepth 100000
open Go.RowKit
theorem MkS.grown {w wr w' : World} {X : Array Value} (h : MkS w X wr) {l : List Itm} {v : Value} (ho : OwnI wr (w.heap.size + 1) l v) (hg : wr.grownBy w' v.ownBlock) : MkS w X w' :=
  have hb : Below (w.heap.size + 1) wr w' := (Below.refl _ _).grown hg (by have := h.o1.lt; omega) fun k hk => by have := (World.ownsRow.lt ho k hk).1; omega
  ⟨h.o1.below hb (by omega), h.bel.trans (hb.mono (by omega))⟩
end Go.Proofs.Ytjepnaefkfkpcaa
/- slices.Clone: what lies there, in new memory. Walked. -/
namespace Go.Proofs.Ytjepnaefkfkpcaa
set_option linter.unusedVariables false
set_option linter.unusedSimpArgs false
set_option maxRecDepth 100000
open Go.RowKit
theorem run_append_src (t ty e : TypeId) (i : TypeInfo) (z : Value) (size bytes : Nat) (ht : Try.prog.underlying t = some (.slice e)) (hi : Try.prog.info? e = some i) (hz : i.zero = some z)
    (hsize : i.size = size) (hby : i.bytes = bytes) (hzs : z.cells.size = size) (hsz : 0 < size) {w : World} {base : Nat} {v : Value} {n : Nat} {xs : List Value} (hown : w.ownsRow base e size v n xs)
    (oa : Option Addr) (m c : Nat) (news : List Value) (hl : news.length = m * size) (hnews : 0 < m → ∃ b o, oa = some ⟨b, o, none⟩ ∧ ∀ j u, news[j]? = some u → w.cell? ⟨b, o + j, none⟩ = some u) (h1 : ∀ u ∈ news, u.oneCell' = true)
    (h63 : n + m ≤ 30000) (hb : bytes ≤ 1000) (hbase : base ≤ w.heap.size) :
    ∃ v' w', (Builtin.append_ #[t, t] ty #[v, .slice oa m c]).run Try.prog w = .ok v' w' ∧ w'.ownsRow base e size v' (n + m) (xs ++ news) ∧ w.grownBy w' v.ownBlock := by
  by_cases h0 : m = 0
  · subst h0
    obtain ⟨ov, cv, gv, e', h1', _⟩ := row_slice hown
    subst e'
    have hf : (Builtin.firstCells i.size 0 (.slice oa 0 c)).run Try.prog w = .ok #[] w := by
      cases oa with
      | none => exact run_firstCells_none w _ _ _ _
      | some a => exact run_firstCells_some w i.size 0 a 0 c [] (by simp) (fun j v h => by simp at h)
    have hn : news = [] := List.length_eq_zero_iff.1 (by omega)
    subst hn
    have hr : (Builtin.append_ #[t, t] ty #[.slice ov n cv, .slice oa 0 c]).run Try.prog w = .ok (.slice ov n cv) w := by
      cases ov with
      | none => simp [Builtin.append_, run_underlying ht, sizeOf, typeInfo, hi, Builtin.lenOf, h1', hf, Result.andThen]
      | some a => simp [Builtin.append_, run_underlying ht, sizeOf, typeInfo, hi, Builtin.lenOf, h1', hf, storeNone, Result.andThen]
    exact ⟨_, w, hr, by simpa using hown, ⟨rfl, rfl, rfl, Nat.le_refl _, fun _ _ _ => rfl⟩⟩
  · obtain ⟨b, o, rfl, hn⟩ := hnews (by omega)
    obtain ⟨v', w', r1, r2, r3, _⟩ := run_append_own w base t ty e i z size bytes ht hi hz hsize hby hzs hsz v n xs hown ⟨b, o, none⟩ m c news hl (fun j u hu => by rw [add_none]; exact hn j u hu) h1 (by unfold maxLen; omega) (Nat.le_trans (Nat.mul_le_mul h63 hb) (by decide)) hbase
    exact ⟨v', w', r1, r2, r3⟩
theorem own_empty (w : World) (e : TypeId) (size : Nat) : (w.alloc (.cells #[] e)).ownsRow w.heap.size e size (.slice (some ⟨w.heap.size, 0, none⟩) 0 0) 0 [] :=
  ⟨by simp, .inr ⟨w.heap.size, 0, #[], rfl, Nat.le_refl _, heap_alloc_new w _, Nat.le_refl _, Nat.zero_le _, by simp, by simp⟩⟩
theorem infoPd : (Try.prog.info? 39).map (fun i => (i.zero, i.size, i.bytes)) = some (some (.agg #[.int .i64 0, .string ⟨#[]⟩, .int .i64 0, .complex .f64 0 0, .slice none 0 0]), 5, 72) := by kernel_rfl
set_option maxRecDepth 100000 in
set_option maxHeartbeats 4000000 in
theorem cloneF_walk (oa : Option Addr) (m c : Nat) (news : List Value) (w : World) (hl : news.length = m * 9) (hnews : 0 < m → ∃ b o, oa = some ⟨b, o, none⟩ ∧ b < w.heap.size ∧ ∀ j u, news[j]? = some u → w.cell? ⟨b, o + j, none⟩ = some u) (h1 : ∀ u ∈ news, u.oneCell' = true) (hm : m ≤ 30000) (hc : c ≤ maxLen) :
    Calls Try.prog 45 #[.slice oa m c] w fun e w' => ∃ v', e = .returned v' ∧ w'.ownsRow w.heap.size 88 9 v' m news ∧ Below w.heap.size w w' := by
  obtain ⟨j0, hj, hy0, hy1, hy2⟩ := info_parts info_frag
  cases oa with
  | none =>
    have hm0 : m = 0 := by
      rcases Nat.eq_zero_or_pos m with h | h
      · exact h
      · obtain ⟨_, _, h2, _⟩ := hnews h; cases h2
    subst hm0
    have hn : news = [] := List.length_eq_zero_iff.1 (by omega)
    subst hn
    clear hnews h1 hl
    have qT : ∀ w : World, (binOp .eql 29 (.slice none 0 c) (.slice none 0 0)).run Try.prog w = .ok (.bool true) w := fun w => Lib.run_eql_slice_nil w _ _ none 0 c 0 0 Try.underlying29
    go_enter Try.func45, Try.ntmps45
    go_wp2_with fail
    go_ret
    exact ⟨_, rfl, World.ownsRow_nil _ _ _ _, Below.refl _ _⟩
  | some a =>
    have B0 : Below w.heap.size w (w.alloc (.cells #[] 88)) := (Below.refl _ _).alloc (Nat.le_refl _) _
    have HA := Lib.hid (fun ty => run_append_src 29 ty 88 j0 _ 9 88 Try.underlying29 hj hy0 hy1 hy2 rfl (by omega) (own_empty w 88 9) (some a) m c news hl (fun h => by
      obtain ⟨b, o, e, hb, hn⟩ := hnews h
      exact ⟨b, o, e, fun j u hu => (B0.cell (p := ⟨b, o + j, none⟩) hb).trans (hn j u hu)⟩) h1 (by omega) (by omega) B0.size)
    have HB0 := Lib.hid B0
    clear hnews h1 hl B0 hj hy0 hy1 hy2
    have qT : ∀ w : World, (binOp .eql 29 (.slice (some a) m c) (.slice none 0 0)).run Try.prog w = .ok (.bool false) w := fun w => Lib.run_eql_slice_nil w _ _ (some a) m c 0 0 Try.underlying29
    go_enter Try.func45, Try.ntmps45
    go_wp2_with (at_builtin; obtain ⟨v', w', hrun, hown, hgr⟩ := HA.out _; refine Lib.wpList_append_run _ rfl _ _ _ _ rfl _ _ rfl rfl _ _ hrun ?_)
    go_ret
    exact ⟨_, rfl, by simpa using hown, HB0.out.grown hgr HB0.out.size (fun k hk => by simp [Value.ownBlock] at hk; omega)⟩
set_option maxRecDepth 100000 in
set_option maxHeartbeats 4000000 in
theorem cloneT_walk (oa : Option Addr) (m c : Nat) (news : List Value) (w : World) (hl : news.length = m * 1) (hnews : 0 < m → ∃ b o, oa = some ⟨b, o, none⟩ ∧ b < w.heap.size ∧ ∀ j u, news[j]? = some u → w.cell? ⟨b, o + j, none⟩ = some u) (h1 : ∀ u ∈ news, u.oneCell' = true) (hm : m ≤ 30000) (hc : c ≤ maxLen) :
    Calls Try.prog 46 #[.slice oa m c] w fun e w' => ∃ v', e = .returned v' ∧ w'.ownsRow w.heap.size 9 1 v' m news ∧ Below w.heap.size w w' := by
  obtain ⟨j0, hj, hy0, hy1, hy2⟩ := info_parts info_text
  cases oa with
  | none =>
    have hm0 : m = 0 := by
      rcases Nat.eq_zero_or_pos m with h | h
      · exact h
      · obtain ⟨_, _, h2, _⟩ := hnews h; cases h2
    subst hm0
    have hn : news = [] := List.length_eq_zero_iff.1 (by omega)
    subst hn
    clear hnews h1 hl
    have qT : ∀ w : World, (binOp .eql 86 (.slice none 0 c) (.slice none 0 0)).run Try.prog w = .ok (.bool true) w := fun w => Lib.run_eql_slice_nil w _ _ none 0 c 0 0 Try.underlying86
    go_enter Try.func46, Try.ntmps46
    go_wp2_with fail
    go_ret
    exact ⟨_, rfl, World.ownsRow_nil _ _ _ _, Below.refl _ _⟩
  | some a =>
    have B0 : Below w.heap.size w (w.alloc (.cells #[] 9)) := (Below.refl _ _).alloc (Nat.le_refl _) _
    have HA := Lib.hid (fun ty => run_append_src 86 ty 9 j0 _ 1 16 Try.underlying86 hj hy0 hy1 hy2 rfl (by omega) (own_empty w 9 1) (some a) m c news hl (fun h => by
      obtain ⟨b, o, e, hb, hn⟩ := hnews h
      exact ⟨b, o, e, fun j u hu => (B0.cell (p := ⟨b, o + j, none⟩) hb).trans (hn j u hu)⟩) h1 (by omega) (by omega) B0.size)
    have HB0 := Lib.hid B0
    clear hnews h1 hl B0 hj hy0 hy1 hy2
    have qT : ∀ w : World, (binOp .eql 86 (.slice (some a) m c) (.slice none 0 0)).run Try.prog w = .ok (.bool false) w := fun w => Lib.run_eql_slice_nil w _ _ (some a) m c 0 0 Try.underlying86
    go_enter Try.func46, Try.ntmps46
    go_wp2_with (at_builtin; obtain ⟨v', w', hrun, hown, hgr⟩ := HA.out _; refine Lib.wpList_append_run _ rfl _ _ _ _ rfl _ _ rfl rfl _ _ hrun ?_)
    go_ret
    exact ⟨_, rfl, by simpa using hown, HB0.out.grown hgr HB0.out.size (fun k hk => by simp [Value.ownBlock] at hk; omega)⟩
set_option maxRecDepth 100000 in
set_option maxHeartbeats 4000000 in
theorem cloneP_walk (oa : Option Addr) (m c : Nat) (news : List Value) (w : World) (hl : news.length = m * 5) (hnews : 0 < m → ∃ b o, oa = some ⟨b, o, none⟩ ∧ b < w.heap.size ∧ ∀ j u, news[j]? = some u → w.cell? ⟨b, o + j, none⟩ = some u) (h1 : ∀ u ∈ news, u.oneCell' = true) (hm : m ≤ 30000) (hc : c ≤ maxLen) :
    Calls Try.prog 59 #[.slice oa m c] w fun e w' => ∃ v', e = .returned v' ∧ w'.ownsRow w.heap.size 39 5 v' m news ∧ Below w.heap.size w w' := by
  obtain ⟨j0, hj, hy0, hy1, hy2⟩ := info_parts infoPd
  cases oa with
  | none =>
    have hm0 : m = 0 := by
      rcases Nat.eq_zero_or_pos m with h | h
      · exact h
      · obtain ⟨_, _, h2, _⟩ := hnews h; cases h2
    subst hm0
    have hn : news = [] := List.length_eq_zero_iff.1 (by omega)
    subst hn
    clear hnews h1 hl
    have qT : ∀ w : World, (binOp .eql 37 (.slice none 0 c) (.slice none 0 0)).run Try.prog w = .ok (.bool true) w := fun w => Lib.run_eql_slice_nil w _ _ none 0 c 0 0 Try.underlying37
    go_enter Try.func59, Try.ntmps59
    go_wp2_with fail
    go_ret
    exact ⟨_, rfl, World.ownsRow_nil _ _ _ _, Below.refl _ _⟩
  | some a =>
    have B0 : Below w.heap.size w (w.alloc (.cells #[] 39)) := (Below.refl _ _).alloc (Nat.le_refl _) _
    have HA := Lib.hid (fun ty => run_append_src 37 ty 39 j0 _ 5 72 Try.underlying37 hj hy0 hy1 hy2 rfl (by omega) (own_empty w 39 5) (some a) m c news hl (fun h => by
      obtain ⟨b, o, e, hb, hn⟩ := hnews h
      exact ⟨b, o, e, fun j u hu => (B0.cell (p := ⟨b, o + j, none⟩) hb).trans (hn j u hu)⟩) h1 (by omega) (by omega) B0.size)
    have HB0 := Lib.hid B0
    clear hnews h1 hl B0 hj hy0 hy1 hy2
    have qT : ∀ w : World, (binOp .eql 37 (.slice (some a) m c) (.slice none 0 0)).run Try.prog w = .ok (.bool false) w := fun w => Lib.run_eql_slice_nil w _ _ (some a) m c 0 0 Try.underlying37
    go_enter Try.func59, Try.ntmps59
    go_wp2_with (at_builtin; obtain ⟨v', w', hrun, hown, hgr⟩ := HA.out _; refine Lib.wpList_append_run _ rfl _ _ _ _ rfl _ _ rfl rfl _ _ hrun ?_)
    go_ret
    exact ⟨_, rfl, by simpa using hown, HB0.out.grown hgr HB0.out.size (fun k hk => by simp [Value.ownBlock] at hk; omega)⟩
/-! ### What is cloned -/
theorem cloneT_calls (l : List ByteArray) (v : Value) (w : World) (hR : TxW w l v) (hm : l.length ≤ 30000) :
    Calls Try.prog 46 #[v] w fun e w' => ∃ v', e = .returned v' ∧ OwnT w' w.heap.size l v' ∧ Below w.heap.size w w' := by
  obtain ⟨oa, cap, b, o, rfl, h⟩ := hR
  exact cloneT_walk oa l.length cap (txC l) w (by simp [txC]) (fun h0 => ⟨b, o, (h.at0 h0).1, (h.at0 h0).2, fun j u hu => by
    unfold txC at hu
    rw [List.getElem?_map] at hu
    obtain ⟨s, hs, rfl⟩ := Option.map_eq_some_iff.1 hu
    exact h.cell j s hs⟩) (fun u hu => by
    unfold txC at hu
    obtain ⟨s, _, rfl⟩ := List.mem_map.1 hu
    rfl) hm h.max
theorem cloneF_calls (l : List Fr) (U : Nat → Value) (oa : Option Addr) (cap b o : Nat) (w : World) (h : FrAt w l U oa cap b o) (hm : l.length ≤ 30000) :
    Calls Try.prog 45 #[.slice oa l.length cap] w fun e w' => ∃ v', e = .returned v' ∧ w'.ownsRow w.heap.size 88 9 v' l.length (frCs U 0 l) ∧ Below w.heap.size w w' :=
  cloneF_walk oa l.length cap (frCs U 0 l) w (frCs_len U 0 l) (fun h0 => ⟨b, o, (h.at0 h0).1, (h.at0 h0).2, fun j u hu => by
    obtain ⟨rfl, _⟩ := h.at0 h0
    have := frCs_news h j u hu
    rwa [add_none] at this⟩) (kfrCs_one h) hm h.max
theorem cloneP_calls (l : List Pr) (V : Nat → Value) (oa : Option Addr) (cap b o : Nat) (w : World) (hc : cap ≤ maxLen) (hn : 0 < l.length → oa = some ⟨b, o, none⟩ ∧ b < w.heap.size)
    (hcell : ∀ i p, l[i]? = some p → ∀ j u, (pc p (V i))[j]? = some u → w.cell? ⟨b, o + i * 5 + j, none⟩ = some u) (h1 : ∀ i p, l[i]? = some p → (V i).oneCell' = true) (hm : l.length ≤ 30000) :
    Calls Try.prog 59 #[.slice oa l.length cap] w fun e w' => ∃ v', e = .returned v' ∧ w'.ownsRow w.heap.size 39 5 v' l.length (newsOf V 0 l) ∧ Below w.heap.size w w' :=
  cloneP_walk oa l.length cap (newsOf V 0 l) w (news_len V 0 l) (fun h0 => ⟨b, o, (hn h0).1, (hn h0).2, fun j u hu => by
    have hj := (List.getElem?_eq_some_iff.1 hu).1
    rw [news_len] at hj
    have hp : l[j / 5]? = some l[j / 5] := List.getElem?_eq_getElem (by omega)
    have e : j = j / 5 * 5 + j % 5 := by omega
    rw [e, news_get V 0 l _ _ hp _ (by omega), Nat.zero_add] at hu
    have := hcell _ _ hp _ _ hu
    rw [show o + j / 5 * 5 + j % 5 = o + j by omega] at this
    exact this⟩) (news_mem fun i p hp => by rw [Nat.zero_add]; exact h1 i p hp) hm hc
end Go.Proofs.Ytjepnaefkfkpcaa
/- States: the document's Stands and New, walked. -/
namespace Go.Proofs.Ytjepnaefkfkpcaa
set_option linter.unusedVariables false
set_option linter.unusedSimpArgs false
set_option maxRecDepth 100000
open Go.RowKit
end Go.Proofs.Ytjepnaefkfkpcaa
/- States: the document's New, walked. -/
namespace Go.Proofs.Ytjepnaefkfkpcaa
set_option linter.unusedVariables false
set_option linter.unusedSimpArgs false
set_option maxRecDepth 100000
open Go.RowKit
def newS (r : Int) (f : Pr) : St := ⟨r, f, [], [], ⟨zeroV, []⟩, 0, 0, 0⟩
abbrev stZ : List Value := [.int .i64 0, .int .i64 0, .string ⟨#[]⟩, .int .i64 0, .complex .f64 0 0, .slice none 0 0, .slice none 0 0, .slice none 0 0, .int .i64 0, .int .i64 0, .int .i64 0, .int .i64 0, .int .i64 0, .int .i64 0, .int .i64 0, .int .i64 0, .slice none 0 0, .int .i64 0, .int .i64 0, .int .i64 0]
theorem newS_lies {w : World} {r : Int} {f : Pr} {fv : Value} (h : LP w f fv) : StW w (newS r f) fv (.slice none 0 0) (.slice none 0 0) (.slice none 0 0) :=
  ⟨h, ⟨none, 0, 0, 0, rfl, Nat.le_refl _, by decide, fun h => absurd h (by simp [newS]), fun k i hk => by simp [newS] at hk, fun i hi => by simp [newS] at hi⟩,
   ⟨none, 0, 0, 0, rfl, Nat.le_refl _, by decide, fun h => absurd h (by simp [newS]), fun k i hk => by simp [newS] at hk, fun i hi => by simp [newS] at hi⟩,
   ⟨fun _ => .nilFunc, none, 0, 0, 0, rfl, Nat.le_refl _, by decide, fun h => absurd h (by simp [newS]), fun k f hk => by simp [newS] at hk, fun k f hk => by simp [newS] at hk⟩⟩
end Go.Proofs.Ytjepnaefkfkpcaa
