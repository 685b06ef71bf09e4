/- Joined: RefSt3, RefSt4, LocA, RefSt5, RowF. -/
import Derived.Test.YthbjgfennclidaaGreatJ27
import Derived.Test.YthbjgfennclidaaGreatJ17
import Derived.Test.YthbjgfennclidaaGreatJ24
import Derived.Test.YthbjgfennclidaaGreatJ14
import Derived.Lib.SliceRun
import Derived.Test.YthbjgfennclidaaGreatJ12
/- States: the document's Read and Stands, walked. -/
namespace Go.Proofs.YthbjgfennclidaaGreat
set_option linter.unusedVariables false
set_option linter.unusedSimpArgs false
set_option maxRecDepth 100000
open Go.RowKit
theorem MkS.grown {w wr w' : World} {X : Array Value} (h : MkS w X wr) {l : List Itm} {v : Value} (ho : OwnI wr (w.heap.size + 1) l v) (hg : wr.grownBy w' v.ownBlock) : MkS w X w' :=
  have hb : Below (w.heap.size + 1) wr w' := (Below.refl _ _).grown hg (by have := h.o1.lt; omega) fun k hk => by have := (World.ownsRow.lt ho k hk).1; omega
  ⟨h.o1.below hb (by omega), h.bel.trans (hb.mono (by omega))⟩
end Go.Proofs.YthbjgfennclidaaGreat
/- States: the document's Stands and New, walked. -/
namespace Go.Proofs.YthbjgfennclidaaGreat
set_option linter.unusedVariables false
set_option linter.unusedSimpArgs false
set_option maxRecDepth 100000
open Go.RowKit
def standsS (s : St) (id : ByteArray) : Itm × Bool := getI (bothI behT s.store s.out) id
end Go.Proofs.YthbjgfennclidaaGreat
/- slices.Clone: what lies there, in new memory. Walked. -/
namespace Go.Proofs.YthbjgfennclidaaGreat
set_option linter.unusedVariables false
set_option linter.unusedSimpArgs false
set_option maxRecDepth 100000
open Go.RowKit
theorem run_append_src (t ty e : TypeId) (i : TypeInfo) (z : Value) (size bytes : Nat) (ht : Tryz.prog.underlying t = some (.slice e)) (hi : Tryz.prog.info? e = some i) (hz : i.zero = some z)
    (hsize : i.size = size) (hby : i.bytes = bytes) (hzs : z.cells.size = size) (hsz : 0 < size) {w : World} {base : Nat} {v : Value} {n : Nat} {xs : List Value} (hown : w.ownsRow base e size v n xs)
    (oa : Option Addr) (m c : Nat) (news : List Value) (hl : news.length = m * size) (hnews : 0 < m → ∃ b o, oa = some ⟨b, o, none⟩ ∧ ∀ j u, news[j]? = some u → w.cell? ⟨b, o + j, none⟩ = some u) (h1 : ∀ u ∈ news, u.oneCell' = true)
    (h63 : n + m ≤ 30000) (hb : bytes ≤ 1000) (hbase : base ≤ w.heap.size) :
    ∃ v' w', (Builtin.append_ #[t, t] ty #[v, .slice oa m c]).run Tryz.prog w = .ok v' w' ∧ w'.ownsRow base e size v' (n + m) (xs ++ news) ∧ w.grownBy w' v.ownBlock := by
  by_cases h0 : m = 0
  · subst h0
    obtain ⟨ov, cv, gv, e', h1', _⟩ := row_slice hown
    subst e'
    have hf : (Builtin.firstCells i.size 0 (.slice oa 0 c)).run Tryz.prog w = .ok #[] w := by
      cases oa with
      | none => exact run_firstCells_none w _ _ _ _
      | some a => exact run_firstCells_some w i.size 0 a 0 c [] (by simp) (fun j v h => by simp at h)
    have hn : news = [] := List.length_eq_zero_iff.1 (by omega)
    subst hn
    have hr : (Builtin.append_ #[t, t] ty #[.slice ov n cv, .slice oa 0 c]).run Tryz.prog w = .ok (.slice ov n cv) w := by
      cases ov with
      | none => simp [Builtin.append_, run_underlying ht, sizeOf, typeInfo, hi, Builtin.lenOf, h1', hf, Result.andThen]
      | some a => simp [Builtin.append_, run_underlying ht, sizeOf, typeInfo, hi, Builtin.lenOf, h1', hf, storeNone, Result.andThen]
    exact ⟨_, w, hr, by simpa using hown, ⟨rfl, rfl, rfl, Nat.le_refl _, fun _ _ _ => rfl⟩⟩
  · obtain ⟨b, o, rfl, hn⟩ := hnews (by omega)
    obtain ⟨v', w', r1, r2, r3, _⟩ := run_append_own w base t ty e i z size bytes ht hi hz hsize hby hzs hsz v n xs hown ⟨b, o, none⟩ m c news hl (fun j u hu => by rw [add_none]; exact hn j u hu) h1 (by unfold maxLen; omega) (Nat.le_trans (Nat.mul_le_mul h63 hb) (by decide)) hbase
    exact ⟨v', w', r1, r2, r3⟩
theorem own_empty (w : World) (e : TypeId) (size : Nat) : (w.alloc (.cells #[] e)).ownsRow w.heap.size e size (.slice (some ⟨w.heap.size, 0, none⟩) 0 0) 0 [] :=
  ⟨by simp, .inr ⟨w.heap.size, 0, #[], rfl, Nat.le_refl _, heap_alloc_new w _, Nat.le_refl _, Nat.zero_le _, by simp, by simp⟩⟩
set_option maxRecDepth 100000 in
set_option maxHeartbeats 4000000 in
theorem cloneF_walk (oa : Option Addr) (m c : Nat) (news : List Value) (w : World) (hl : news.length = m * 9) (hnews : 0 < m → ∃ b o, oa = some ⟨b, o, none⟩ ∧ b < w.heap.size ∧ ∀ j u, news[j]? = some u → w.cell? ⟨b, o + j, none⟩ = some u) (h1 : ∀ u ∈ news, u.oneCell' = true) (hm : m ≤ 30000) (hc : c ≤ maxLen) :
    Calls Tryz.prog 130 #[.slice oa m c] w fun e w' => ∃ v', e = .returned v' ∧ w'.ownsRow w.heap.size 125 9 v' m news ∧ Below w.heap.size w w' := by
  obtain ⟨j0, hj, hy0, hy1, hy2⟩ := info_parts info_frag
  cases oa with
  | none =>
    have hm0 : m = 0 := by
      rcases Nat.eq_zero_or_pos m with h | h
      · exact h
      · obtain ⟨_, _, h2, _⟩ := hnews h; cases h2
    subst hm0
    have hn : news = [] := List.length_eq_zero_iff.1 (by omega)
    subst hn
    clear hnews h1 hl
    have qT : ∀ w : World, (binOp .eql 29 (.slice none 0 c) (.slice none 0 0)).run Tryz.prog w = .ok (.bool true) w := fun w => Lib.run_eql_slice_nil w _ _ none 0 c 0 0 Tryz.underlying29
    go_enter Tryz.func130, Tryz.ntmps130
    go_wp2_with fail
    go_ret
    exact ⟨_, rfl, World.ownsRow_nil _ _ _ _, Below.refl _ _⟩
  | some a =>
    have B0 : Below w.heap.size w (w.alloc (.cells #[] 125)) := (Below.refl _ _).alloc (Nat.le_refl _) _
    have HA := Lib.hid (fun ty => run_append_src 29 ty 125 j0 _ 9 88 Tryz.underlying29 hj hy0 hy1 hy2 rfl (by omega) (own_empty w 125 9) (some a) m c news hl (fun h => by
      obtain ⟨b, o, e, hb, hn⟩ := hnews h
      exact ⟨b, o, e, fun j u hu => (B0.cell (p := ⟨b, o + j, none⟩) hb).trans (hn j u hu)⟩) h1 (by omega) (by omega) B0.size)
    have HB0 := Lib.hid B0
    clear hnews h1 hl B0 hj hy0 hy1 hy2
    have qT : ∀ w : World, (binOp .eql 29 (.slice (some a) m c) (.slice none 0 0)).run Tryz.prog w = .ok (.bool false) w := fun w => Lib.run_eql_slice_nil w _ _ (some a) m c 0 0 Tryz.underlying29
    go_enter Tryz.func130, Tryz.ntmps130
    go_wp2_with (at_builtin; obtain ⟨v', w', hrun, hown, hgr⟩ := HA.out _; refine Lib.wpList_append_run _ rfl _ _ _ _ rfl _ _ rfl rfl _ _ hrun ?_)
    go_ret
    exact ⟨_, rfl, by simpa using hown, HB0.out.grown hgr HB0.out.size (fun k hk => by simp [Value.ownBlock] at hk; omega)⟩
set_option maxRecDepth 100000 in
set_option maxHeartbeats 4000000 in
theorem cloneT_walk (oa : Option Addr) (m c : Nat) (news : List Value) (w : World) (hl : news.length = m * 1) (hnews : 0 < m → ∃ b o, oa = some ⟨b, o, none⟩ ∧ b < w.heap.size ∧ ∀ j u, news[j]? = some u → w.cell? ⟨b, o + j, none⟩ = some u) (h1 : ∀ u ∈ news, u.oneCell' = true) (hm : m ≤ 30000) (hc : c ≤ maxLen) :
    Calls Tryz.prog 131 #[.slice oa m c] w fun e w' => ∃ v', e = .returned v' ∧ w'.ownsRow w.heap.size 9 1 v' m news ∧ Below w.heap.size w w' := by
  obtain ⟨j0, hj, hy0, hy1, hy2⟩ := info_parts info_text
  cases oa with
  | none =>
    have hm0 : m = 0 := by
      rcases Nat.eq_zero_or_pos m with h | h
      · exact h
      · obtain ⟨_, _, h2, _⟩ := hnews h; cases h2
    subst hm0
    have hn : news = [] := List.length_eq_zero_iff.1 (by omega)
    subst hn
    clear hnews h1 hl
    have qT : ∀ w : World, (binOp .eql 123 (.slice none 0 c) (.slice none 0 0)).run Tryz.prog w = .ok (.bool true) w := fun w => Lib.run_eql_slice_nil w _ _ none 0 c 0 0 Tryz.underlying123
    go_enter Tryz.func131, Tryz.ntmps131
    go_wp2_with fail
    go_ret
    exact ⟨_, rfl, World.ownsRow_nil _ _ _ _, Below.refl _ _⟩
  | some a =>
    have B0 : Below w.heap.size w (w.alloc (.cells #[] 9)) := (Below.refl _ _).alloc (Nat.le_refl _) _
    have HA := Lib.hid (fun ty => run_append_src 123 ty 9 j0 _ 1 16 Tryz.underlying123 hj hy0 hy1 hy2 rfl (by omega) (own_empty w 9 1) (some a) m c news hl (fun h => by
      obtain ⟨b, o, e, hb, hn⟩ := hnews h
      exact ⟨b, o, e, fun j u hu => (B0.cell (p := ⟨b, o + j, none⟩) hb).trans (hn j u hu)⟩) h1 (by omega) (by omega) B0.size)
    have HB0 := Lib.hid B0
    clear hnews h1 hl B0 hj hy0 hy1 hy2
    have qT : ∀ w : World, (binOp .eql 123 (.slice (some a) m c) (.slice none 0 0)).run Tryz.prog w = .ok (.bool false) w := fun w => Lib.run_eql_slice_nil w _ _ (some a) m c 0 0 Tryz.underlying123
    go_enter Tryz.func131, Tryz.ntmps131
    go_wp2_with (at_builtin; obtain ⟨v', w', hrun, hown, hgr⟩ := HA.out _; refine Lib.wpList_append_run _ rfl _ _ _ _ rfl _ _ rfl rfl _ _ hrun ?_)
    go_ret
    exact ⟨_, rfl, by simpa using hown, HB0.out.grown hgr HB0.out.size (fun k hk => by simp [Value.ownBlock] at hk; omega)⟩
/-! ### What is cloned -/
theorem cloneT_calls (l : List ByteArray) (v : Value) (w : World) (hR : TxW w l v) (hm : l.length ≤ 30000) :
    Calls Tryz.prog 131 #[v] w fun e w' => ∃ v', e = .returned v' ∧ OwnT w' w.heap.size l v' ∧ Below w.heap.size w w' := by
  obtain ⟨oa, cap, b, o, rfl, h⟩ := hR
  exact cloneT_walk oa l.length cap (txC l) w (by simp [txC]) (fun h0 => ⟨b, o, (h.at0 h0).1, (h.at0 h0).2, fun j u hu => by
    unfold txC at hu
    rw [List.getElem?_map] at hu
    obtain ⟨s, hs, rfl⟩ := Option.map_eq_some_iff.1 hu
    exact h.cell j s hs⟩) (fun u hu => by
    unfold txC at hu
    obtain ⟨s, _, rfl⟩ := List.mem_map.1 hu
    rfl) hm h.max
theorem cloneF_calls (l : List Fr) (U : Nat → Value) (oa : Option Addr) (cap b o : Nat) (w : World) (h : FrAt w l U oa cap b o) (hm : l.length ≤ 30000) :
    Calls Tryz.prog 130 #[.slice oa l.length cap] w fun e w' => ∃ v', e = .returned v' ∧ w'.ownsRow w.heap.size 125 9 v' l.length (frCs U 0 l) ∧ Below w.heap.size w w' :=
  cloneF_walk oa l.length cap (frCs U 0 l) w (frCs_len U 0 l) (fun h0 => ⟨b, o, (h.at0 h0).1, (h.at0 h0).2, fun j u hu => by
    obtain ⟨rfl, _⟩ := h.at0 h0
    have := frCs_news h j u hu
    rwa [add_none] at this⟩) (kfrCs_one h) hm h.max
end Go.Proofs.YthbjgfennclidaaGreat
/- States: the document's New, walked. -/
namespace Go.Proofs.YthbjgfennclidaaGreat
set_option linter.unusedVariables false
set_option linter.unusedSimpArgs false
set_option maxRecDepth 100000
open Go.RowKit
abbrev stZ : List Value := [.int .i64 0, .int .i64 0, .string ⟨#[]⟩, .int .i64 0, .complex .f64 0 0, .slice none 0 0, .slice none 0 0, .slice none 0 0, .int .i64 0, .int .i64 0, .int .i64 0, .int .i64 0, .int .i64 0, .int .i64 0, .int .i64 0, .int .i64 0, .slice none 0 0, .int .i64 0, .int .i64 0, .int .i64 0]
end Go.Proofs.YthbjgfennclidaaGreat
/- States: the document's laid, walked. -/
namespace Go.Proofs.YthbjgfennclidaaGreat
set_option linter.unusedVariables false
set_option linter.unusedSimpArgs false
set_option maxRecDepth 100000
open Go.RowKit
def RowF (w : World) (B : Nat) (l : List Itm) (v : Value) : Prop := ∃ oa cap b o, v = .slice oa l.length cap ∧ RowAt 8 ic w l oa cap b o ∧ (0 < l.length → B ≤ b)
theorem RowF.row {w : World} {B : Nat} {l : List Itm} {v : Value} (h : RowF w B l v) : Row 8 ic w l v := by
  obtain ⟨oa, cap, b, o, e, h, _⟩ := h; exact ⟨oa, cap, b, o, e, h⟩
theorem RowF.later {w w' : World} {B : Nat} {l : List Itm} {v : Value} (h : RowF w B l v) (hb : Below w.heap.size w w') : RowF w' B l v := by
  obtain ⟨oa, cap, b, o, e, h, h2⟩ := h; exact ⟨oa, cap, b, o, e, h.later hb, h2⟩
theorem RowF.sub {w w' : World} {B : Nat} {l : List Itm} {v : Value} (h : RowF w B l v) (hs : w.heap.size ≤ w'.heap.size) (hc : ∀ b o, B ≤ b → w'.cell? ⟨b, o, none⟩ = w.cell? ⟨b, o, none⟩) : RowF w' B l v := by
  obtain ⟨oa, cap, b, o, e, h, h2⟩ := h
  refine ⟨oa, cap, b, o, e, ⟨h.len, h.max, fun h0 => ⟨(h.at0 h0).1, Nat.lt_of_lt_of_le (h.at0 h0).2 hs⟩, fun k i hk j u hu => ?_, h.ok⟩, h2⟩
  rw [hc _ _ (h2 (by have := some_posI hk; omega))]
  exact h.cell k i hk j u hu
theorem RowF.set {w : World} {B : Nat} {l : List Itm} {v : Value} (h : RowF w B l v) {b q : Nat} (hb : b < B) (u : Value) : RowF (w.setCell ⟨b, q, none⟩ u) B l v :=
  h.sub (by simp [World.setCell]) fun b' o hb' => by
    apply World.cell?_setCell_other
    intro e
    have : b = b' := congrArg Addr.block e
    omega
theorem RowF.sets {B b : Nat} {l : List Itm} {v : Value} (hb : b < B) (vs : List Value) : ∀ {w : World} (o : Nat), RowF w B l v → RowF (w.setCells b o vs) B l v := by
  induction vs with
  | nil => intro w o h; exact h
  | cons u r ih => intro w o h; exact ih (o + 1) (h.set hb u)
theorem RowF.mono {w : World} {B B' : Nat} {l : List Itm} {v : Value} (h : RowF w B l v) (hb : B' ≤ B) : RowF w B' l v := by
  obtain ⟨oa, cap, b, o, e, h, h2⟩ := h; exact ⟨oa, cap, b, o, e, h, fun h0 => Nat.le_trans hb (h2 h0)⟩
theorem OwnI.rowF {w : World} {B : Nat} {l : List Itm} {v : Value} (h : OwnI w B l v) (hok : ∀ i ∈ l, i.id.size ≤ maxLen ∧ i.kd.size ≤ maxLen) : RowF w B l v := by
  obtain ⟨oa, cap, g, e, h1, h2, hg⟩ := row_slice h
  have hr := h.row hok
  subst e
  refine ⟨oa, cap, g, 0, rfl, ⟨h1, h2, fun h0 => ⟨(hg h0).1, (hg h0).2.2⟩, fun k i hk j u hu => ?_, hok⟩, fun h0 => (hg h0).2.1⟩
  obtain ⟨oa', cap', b', o', e', hr'⟩ := hr
  cases e'
  have h0 : 0 < l.length := by have := some_posI hk; omega
  have e1 := (hg h0).1
  rw [(hr'.at0 h0).1] at e1
  cases e1
  exact hr'.cell k i hk j u hu
def laidOut (s : St) (x : Itm) (keep : Bool) : List Itm := if hasT s.f x = true then s.out.filter (neB x.id) else if keep = true then putI (s.out.filter (neB x.id)) x else s.out.filter (neB x.id)
end Go.Proofs.YthbjgfennclidaaGreat
