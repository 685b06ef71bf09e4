/- Joined: OpenNo, SrvP, SrvT, RefAsk, SrvN. -/
import Derived.Test.YthbjgfennclidaaGreatJ30
import Derived.Test.YthbjgfennclidaaGreatJ19
import Derived.Test.YthbjgfennclidaaGreatJ31
import Derived.Test.YthbjgfennclidaaGreatJ34
import Derived.Test.YthbjgfennclidaaGreatJ21
import Derived.Test.YthbjgfennclidaaGreatJ33
import Derived.Test.YthbjgfennclidaaGreatJ17
import Derived.RangeFuncNested
import Derived.RangeFuncBound
import Derived.RangeFuncCalls
import Derived.Deep.DeepCutAuto
/- What the arguments of the laws read as: messages. -/
namespace Go.Proofs.YthbjgfennclidaaGreat
set_option linter.unusedVariables false
set_option linter.unusedSimpArgs false
set_option maxRecDepth 100000
open Go.ChangeShapes Go.WideShapes Go.ChangeAt Go.RowKit Go.Deep
abbrev lnc (e : En) : List Value := [.string e.x.id, .int .i64 e.x.r, .int .i64 e.x.c, .int .i64 e.x.st, .string e.x.kd, .int .i64 e.x.num, .float .f64 e.x.x, .float .f64 e.x.y, .bool e.x.d, .bool e.goes, .int .i64 e.nr, .int .i64 e.nc]
abbrev noL (m : Mg) (fv kv hv lv : Value) : List Value := [.int .i64 m.kind, .int .i64 m.frm, .int .i64 m.dst, .int .i64 m.sid, .int .i64 m.turn, .int .i64 m.f.op, .string m.f.text, .int .i64 m.f.n, .float .f64 m.f.x, .float .f64 m.f.y, fv, .int .i64 (m.k.star 0), .int .i64 (m.k.star 1), .int .i64 (m.k.star 2), .int .i64 (m.k.star 3), .int .i64 (m.k.star 4), .int .i64 (m.k.star 5), .int .i64 (m.k.star 6), .int .i64 (m.k.star 7), kv, hv, .int .i64 m.n, lv, .bool m.star]
abbrev noA (m : Mg) (fv kv hv lv : Value) : Array Value := #[.int .i64 m.kind, .int .i64 m.frm, .int .i64 m.dst, .int .i64 m.sid, .int .i64 m.turn, .int .i64 m.f.op, .string m.f.text, .int .i64 m.f.n, .float .f64 m.f.x, .float .f64 m.f.y, fv, .int .i64 (m.k.star 0), .int .i64 (m.k.star 1), .int .i64 (m.k.star 2), .int .i64 (m.k.star 3), .int .i64 (m.k.star 4), .int .i64 (m.k.star 5), .int .i64 (m.k.star 6), .int .i64 (m.k.star 7), kv, hv, .int .i64 m.n, lv, .bool m.star]
def EnOk (e : En) : Prop := e.x.id.size ≤ maxLen ∧ e.x.kd.size ≤ maxLen
structure NoW (w : World) (m : Mg) (fv kv hv lv : Value) : Prop where
  lf : LT w m.f fv
  lk : FrW w m.k.l kv
  lh : Row 4 hc w m.has hv
  ll : GRow 12 lnc w m.l lv
  ok : ∀ e ∈ m.l, EnOk e
theorem NoW.later {w w' : World} {m : Mg} {fv kv hv lv : Value} (h : NoW w m fv kv hv lv) (hb : Below w.heap.size w w') : NoW w' m fv kv hv lv :=
  ⟨h.lf.later hb (Nat.le_refl _), h.lk.later hb (Nat.le_refl _), h.lh.later hb, h.ll.later hb, h.ok⟩
theorem RG.grow {α : Type} {sz : Nat} {f : α → List Value} {w : World} {l : List α} {v : Value} (h : RG sz f w l v) : GRow sz f w l v := by
  obtain ⟨oa, cap, b, o, e, h⟩ := h
  exact ⟨oa, cap, b, o, e, h.len, h.max, h.at0, h.cell⟩
theorem RG.itm {f : Itm → List Value} {sz : Nat} {w : World} {l : List Itm} {v : Value} (h : RG sz f w l v) (hok : ∀ i ∈ l, i.id.size ≤ maxLen ∧ i.kd.size ≤ maxLen) : Row sz f w l v := by
  obtain ⟨oa, cap, b, o, e, h⟩ := h
  exact ⟨oa, cap, b, o, e, h.len, h.max, h.at0, h.cell, hok⟩
instance : Inhabited Itm := ⟨Itm.zero⟩
instance : Inhabited En := ⟨⟨Itm.zero, false, 0, 0⟩⟩
section
variable {H : Type} {enc : TypeId × Value → H} {w : World} {base : Nat} {spare : Nat → Bool} {held : Bool} {fuel : Nat} {cs : List Value} {x : DataW H × List MemPlace}
set_option maxRecDepth 100000 in
set_option maxHeartbeats 4000000 in
theorem trod_line (h : DataW.trod enc Tryz.prog w base spare held fuel 134 cs = some x) : ∃ e : En, cs = lnc e ∧ EnOk e := by
  obtain ⟨xs, n, hn, hx, hl, hxl, hf⟩ := DataW.trod_struct Tryz.underlying134 h
  have hl' : cs.length = 12 := hl.trans (by kernel_rfl)
  have hxl' : xs.length = 4 := hxl.trans (by kernel_rfl)
  have g0 : DataW.trod enc Tryz.prog w base spare held n 132 ((cs.drop 0).take (Tryz.prog.cellsOf 132)) = xs[0]? := hf 0 _ rfl
  have g1 : DataW.trod enc Tryz.prog w base spare held n 4 ((cs.drop 9).take (Tryz.prog.cellsOf 4)) = xs[1]? := hf 1 _ rfl
  have g2 : DataW.trod enc Tryz.prog w base spare held n 3 ((cs.drop 10).take (Tryz.prog.cellsOf 3)) = xs[2]? := hf 2 _ rfl
  have g3 : DataW.trod enc Tryz.prog w base spare held n 3 ((cs.drop 11).take (Tryz.prog.cellsOf 3)) = xs[3]? := hf 3 _ rfl
  rw [show Tryz.prog.cellsOf 132 = 9 by kernel_rfl, List.getElem?_eq_getElem (by omega)] at g0
  rw [show Tryz.prog.cellsOf 4 = 1 by kernel_rfl, List.getElem?_eq_getElem (by omega)] at g1
  rw [show Tryz.prog.cellsOf 3 = 1 by kernel_rfl, List.getElem?_eq_getElem (by omega)] at g2 g3
  match cs, hl' with
  | [c0, c1, c2, c3, c4, c5, c6, c7, c8, c9, c10, c11], _ =>
    obtain ⟨id0, r0, c0, st0, kd0, nn0, x0, y0, d0, k0, h0a, h0b, _⟩ := trod_row g0
    obtain ⟨z1, k1, _⟩ := DataW.trod_bool Tryz.underlying4 g1
    obtain ⟨z2, k2, _, w2⟩ := DataW.trod_int Tryz.underlying3 g2
    obtain ⟨z3, k3, _, w3⟩ := DataW.trod_int Tryz.underlying3 g3
    simp [tc] at k0 k1 k2 k3
    obtain ⟨a0_0, a0_1, a0_2, a0_3, a0_4, a0_5, a0_6, a0_7, a0_8⟩ := k0
    subst k1 k2 k3 a0_0 a0_1 a0_2 a0_3 a0_4 a0_5 a0_6 a0_7 a0_8
    exact ⟨⟨⟨id0, r0, c0, st0, kd0, nn0, x0, y0, d0⟩, z1, z2, z3⟩, rfl, h0a, h0b⟩
set_option maxRecDepth 100000 in
set_option maxHeartbeats 4000000 in
theorem trod_has (h : DataW.trod enc Tryz.prog w base spare held fuel 74 cs = some x) : ∃ i : Itm, cs = hc i ∧ (i.id.size ≤ maxLen ∧ i.kd.size ≤ maxLen) := by
  obtain ⟨xs, n, hn, hx, hl, hxl, hf⟩ := DataW.trod_struct Tryz.underlying74 h
  have hl' : cs.length = 4 := hl.trans (by kernel_rfl)
  have hxl' : xs.length = 3 := hxl.trans (by kernel_rfl)
  have g0 : DataW.trod enc Tryz.prog w base spare held n 9 ((cs.drop 0).take (Tryz.prog.cellsOf 9)) = xs[0]? := hf 0 _ rfl
  have g1 : DataW.trod enc Tryz.prog w base spare held n 66 ((cs.drop 1).take (Tryz.prog.cellsOf 66)) = xs[1]? := hf 1 _ rfl
  have g2 : DataW.trod enc Tryz.prog w base spare held n 3 ((cs.drop 3).take (Tryz.prog.cellsOf 3)) = xs[2]? := hf 2 _ rfl
  rw [show Tryz.prog.cellsOf 9 = 1 by kernel_rfl, List.getElem?_eq_getElem (by omega)] at g0
  rw [show Tryz.prog.cellsOf 66 = 2 by kernel_rfl, List.getElem?_eq_getElem (by omega)] at g1
  rw [show Tryz.prog.cellsOf 3 = 1 by kernel_rfl, List.getElem?_eq_getElem (by omega)] at g2
  match cs, hl' with
  | [c0, c1, c2, c3], _ =>
    obtain ⟨z0, k0, _, w0⟩ := DataW.trod_string Tryz.underlying9 g0
    obtain ⟨r1, q1, k1, w1⟩ := trod_verW g1
    obtain ⟨z2, k2, _, w2⟩ := DataW.trod_int Tryz.underlying3 g2
    simp [tc] at k0 k1 k2
    obtain ⟨a1_0, a1_1⟩ := k1
    subst k0 k2 a1_0 a1_1
    exact ⟨⟨z0, r1, q1, z2, ⟨#[]⟩, 0, 0, 0, false⟩, rfl, w0, (by decide : (0 : Nat) ≤ maxLen)⟩
theorem trod_hass (h : DataW.trod enc Tryz.prog w base spare held fuel 34 cs = some x) : ∃ (l : List Itm) (v : Value), cs = [v] ∧ Row 4 hc w l v := by
  obtain ⟨l, v, e, hl, ho⟩ := trod_rg Tryz.underlying34 (sz := 4) (by kernel_rfl) (by decide) hc (fun _ => rfl) (fun i => i.id.size ≤ maxLen ∧ i.kd.size ≤ maxLen) (fun _ _ _ h => trod_has h) h
  exact ⟨l, v, e, hl.itm ho⟩
theorem trod_lines (h : DataW.trod enc Tryz.prog w base spare held fuel 35 cs = some x) : ∃ (l : List En) (v : Value), cs = [v] ∧ GRow 12 lnc w l v ∧ ∀ e ∈ l, EnOk e := by
  obtain ⟨l, v, e, hl, ho⟩ := trod_rg Tryz.underlying35 (sz := 12) (by kernel_rfl) (by decide) lnc (fun _ => rfl) EnOk (fun _ _ _ h => trod_line h) h
  exact ⟨l, v, e, hl.grow, ho⟩
set_option maxRecDepth 100000 in
set_option maxHeartbeats 4000000 in
theorem trod_note (h : DataW.trod enc Tryz.prog w base spare held fuel 37 cs = some x) : ∃ (m : Mg) (fv kv hv lv : Value), cs = noL m fv kv hv lv ∧ NoW w m fv kv hv lv := by
  obtain ⟨xs, n, hn, hx, hl, hxl, hf⟩ := DataW.trod_struct Tryz.underlying37 h
  have hl' : cs.length = 24 := hl.trans (by kernel_rfl)
  have hxl' : xs.length = 11 := hxl.trans (by kernel_rfl)
  have g0 : DataW.trod enc Tryz.prog w base spare held n 3 ((cs.drop 0).take (Tryz.prog.cellsOf 3)) = xs[0]? := hf 0 _ rfl
  have g1 : DataW.trod enc Tryz.prog w base spare held n 3 ((cs.drop 1).take (Tryz.prog.cellsOf 3)) = xs[1]? := hf 1 _ rfl
  have g2 : DataW.trod enc Tryz.prog w base spare held n 3 ((cs.drop 2).take (Tryz.prog.cellsOf 3)) = xs[2]? := hf 2 _ rfl
  have g3 : DataW.trod enc Tryz.prog w base spare held n 3 ((cs.drop 3).take (Tryz.prog.cellsOf 3)) = xs[3]? := hf 3 _ rfl
  have g4 : DataW.trod enc Tryz.prog w base spare held n 3 ((cs.drop 4).take (Tryz.prog.cellsOf 3)) = xs[4]? := hf 4 _ rfl
  have g5 : DataW.trod enc Tryz.prog w base spare held n 25 ((cs.drop 5).take (Tryz.prog.cellsOf 25)) = xs[5]? := hf 5 _ rfl
  have g6 : DataW.trod enc Tryz.prog w base spare held n 31 ((cs.drop 11).take (Tryz.prog.cellsOf 31)) = xs[6]? := hf 6 _ rfl
  have g7 : DataW.trod enc Tryz.prog w base spare held n 34 ((cs.drop 20).take (Tryz.prog.cellsOf 34)) = xs[7]? := hf 7 _ rfl
  have g8 : DataW.trod enc Tryz.prog w base spare held n 3 ((cs.drop 21).take (Tryz.prog.cellsOf 3)) = xs[8]? := hf 8 _ rfl
  have g9 : DataW.trod enc Tryz.prog w base spare held n 35 ((cs.drop 22).take (Tryz.prog.cellsOf 35)) = xs[9]? := hf 9 _ rfl
  have g10 : DataW.trod enc Tryz.prog w base spare held n 4 ((cs.drop 23).take (Tryz.prog.cellsOf 4)) = xs[10]? := hf 10 _ rfl
  rw [show Tryz.prog.cellsOf 3 = 1 by kernel_rfl, List.getElem?_eq_getElem (by omega)] at g0 g1 g2 g3 g4 g8
  rw [show Tryz.prog.cellsOf 25 = 6 by kernel_rfl, List.getElem?_eq_getElem (by omega)] at g5
  rw [show Tryz.prog.cellsOf 31 = 9 by kernel_rfl, List.getElem?_eq_getElem (by omega)] at g6
  rw [show Tryz.prog.cellsOf 34 = 1 by kernel_rfl, List.getElem?_eq_getElem (by omega)] at g7
  rw [show Tryz.prog.cellsOf 35 = 1 by kernel_rfl, List.getElem?_eq_getElem (by omega)] at g9
  rw [show Tryz.prog.cellsOf 4 = 1 by kernel_rfl, List.getElem?_eq_getElem (by omega)] at g10
  match cs, hl' with
  | [c0, c1, c2, c3, c4, c5, c6, c7, c8, c9, c10, c11, c12, c13, c14, c15, c16, c17, c18, c19, c20, c21, c22, c23], _ =>
    obtain ⟨z0, k0, _, w0⟩ := DataW.trod_int Tryz.underlying3 g0
    obtain ⟨z1, k1, _, w1⟩ := DataW.trod_int Tryz.underlying3 g1
    obtain ⟨z2, k2, _, w2⟩ := DataW.trod_int Tryz.underlying3 g2
    obtain ⟨z3, k3, _, w3⟩ := DataW.trod_int Tryz.underlying3 g3
    obtain ⟨z4, k4, _, w4⟩ := DataW.trod_int Tryz.underlying3 g4
    obtain ⟨q5, kq5, k5, hq5⟩ := trod_tree n _ _ g5
    obtain ⟨K6, ku6, k6, r6⟩ := trod_know g6
    obtain ⟨l7, v7, k7, r7⟩ := trod_hass g7
    obtain ⟨z8, k8, _, w8⟩ := DataW.trod_int Tryz.underlying3 g8
    obtain ⟨l9, v9, k9, r9⟩ := trod_lines g9
    obtain ⟨z10, k10, _⟩ := DataW.trod_bool Tryz.underlying4 g10
    simp [tc] at k0 k1 k2 k3 k4 k5 k6 k7 k8 k9 k10
    obtain ⟨a5_0, a5_1, a5_2, a5_3, a5_4, a5_5⟩ := k5
    obtain ⟨a6_0, a6_1, a6_2, a6_3, a6_4, a6_5, a6_6, a6_7, a6_8⟩ := k6
    subst k0 k1 k2 k3 k4 k7 k8 k9 k10 a5_0 a5_1 a5_2 a5_3 a5_4 a5_5 a6_0 a6_1 a6_2 a6_3 a6_4 a6_5 a6_6 a6_7 a6_8
    exact ⟨⟨z0, z1, z2, z3, z4, q5, K6, l7, z8, l9, z10⟩, _, _, _, _, rfl, hq5, r6, r7, r9.1, r9.2⟩
set_option maxRecDepth 100000 in
theorem open_note {r : Reach} {b0 : Nat} {v : Value} {d : DataW H} {p : List MemPlace} (hv : Value.okWide Tryz.prog w r b0 37 v) (h : DataW.Trod enc Tryz.prog w base spare held 37 v d p) :
    ∃ (m : Mg) (fv kv hv lv : Value), v = .agg (noA m fv kv hv lv) ∧ NoW w m fv kv hv lv := by
  obtain ⟨l, rfl, hsz⟩ := okWide_struct Tryz.underlying37 hv
  obtain ⟨f, hf⟩ := h
  obtain ⟨m, fv, kv, hv, lv, e, hs⟩ := trod_note hf
  refine ⟨m, fv, kv, hv, lv, ?_, hs⟩
  obtain ⟨l⟩ := l
  have : l = _ := e
  rw [this]
end
end Go.Proofs.YthbjgfennclidaaGreat
/- Appends of entries, of messages, and what stays beside. No walk. -/
namespace Go.Proofs.YthbjgfennclidaaGreat
set_option linter.unusedVariables false
set_option linter.unusedSimpArgs false
set_option maxRecDepth 100000
open Go Go.RowKit
theorem et_ne_mt : (70 : TypeId) ≠ 47 := by decide
theorem mvC_one {x : Mv} (h : x.fv.oneCell' = true ∧ x.kv.oneCell' = true ∧ x.hv.oneCell' = true ∧ x.lv.oneCell' = true) : ∀ u ∈ mvC x, u.oneCell' = true := by
  obtain ⟨h1, h2, h3, h4⟩ := h
  intro u hu
  simp only [mvC, mgA, List.mem_cons, List.not_mem_nil, or_false] at hu
  rcases hu with rfl | rfl | rfl | rfl | rfl | rfl | rfl | rfl | rfl | rfl | rfl | rfl | rfl | rfl | rfl | rfl | rfl | rfl | rfl | rfl | rfl | rfl | rfl <;> first | rfl | assumption
theorem own_len {α : Type} {e : TypeId} {sz : Nat} {f : α → List Value} {w : World} {base : Nat} {l : List α} {v : Value} (h : OwnG e sz f w base l v) : v.oneCell' = true := by obtain ⟨oa, cap, rfl⟩ := h.val; rfl
theorem run_push_en2 (ty : TypeId) {w : World} {base : Nat} {v : Value} {l : List En} (x : En) (h : OwnG 70 11 ec w base l v) (hn : l.length ≤ 20000) (hbase : base ≤ w.heap.size) :
    ∃ g cap w', (Builtin.append_ #[45, 45] ty #[v, .slice (some ⟨w.heap.size, 0, none⟩) 1 1]).run Tryz.prog (w.alloc (.cells (eA x) 70)) = .ok (.slice (some ⟨g, 0, none⟩) (l.length + 1) cap) w' ∧ OwnG 70 11 ec w' base (l ++ [x]) (.slice (some ⟨g, 0, none⟩) (l.length + 1) cap) ∧ (w.alloc (.cells (eA x) 70)).grownBy w' v.ownBlock ∧ (v.ownBlock = some g ∨ w.heap.size < g) := by
  obtain ⟨j0, hj, hy0, hy1, hy2⟩ := info_parts info_en
  have h2 := h.later (w' := w.alloc (.cells (eA x) 70)) ((Below.refl _ _).alloc (Nat.le_refl _) _)
  have O := Own.new w (eA x) 70
  obtain ⟨g, cap, w', r1, r2, r3, r4, _⟩ := run_append_two (P := Tryz.prog) (w.alloc (.cells (eA x) 70)) 45 ty base 70 j0 _ 11 112 Tryz.underlying45 hj hy0 hy1 hy2 rfl (by omega) v l.length (gC ec l) h2 ⟨w.heap.size, 0, none⟩ 1 1 (ec x) rfl (fun j u hu => by
    rw [add_none, O.cell]; simpa using hu) (ec_one x) (by omega) (by unfold maxLen; omega) (by omega) (by rw [World.size_alloc]; omega) _ rfl
  refine ⟨g, cap, w', r1, OwnG.push r2 rfl, r3, ?_⟩
  rcases r4 with r4 | ⟨r4, _⟩
  · exact .inl r4
  · rw [World.size_alloc] at r4; exact .inr (by omega)
theorem run_push_mg (ty : TypeId) {w : World} {base : Nat} {v : Value} {l : List Mv} (x : Mv) (h : OwnG 47 23 mvC w base l v) (h1 : x.fv.oneCell' = true ∧ x.kv.oneCell' = true ∧ x.hv.oneCell' = true ∧ x.lv.oneCell' = true) (hn : l.length ≤ 20000) (hbase : base ≤ w.heap.size) :
    ∃ g cap w', (Builtin.append_ #[56, 56] ty #[v, .slice (some ⟨w.heap.size, 0, none⟩) 1 1]).run Tryz.prog (w.alloc (.cells (mgA x.m x.fv x.kv x.hv x.lv) 47)) = .ok (.slice (some ⟨g, 0, none⟩) (l.length + 1) cap) w' ∧ OwnG 47 23 mvC w' base (l ++ [x]) (.slice (some ⟨g, 0, none⟩) (l.length + 1) cap) ∧ (w.alloc (.cells (mgA x.m x.fv x.kv x.hv x.lv) 47)).grownBy w' v.ownBlock := by
  obtain ⟨j0, hj, hy0, hy1, hy2⟩ := info_parts info_mg
  have h2 := h.later (w' := w.alloc (.cells (mgA x.m x.fv x.kv x.hv x.lv) 47)) ((Below.refl _ _).alloc (Nat.le_refl _) _)
  have O := Own.new w (mgA x.m x.fv x.kv x.hv x.lv) 47
  obtain ⟨g, cap, w', r1, r2, r3, r4, _⟩ := run_append_two (P := Tryz.prog) (w.alloc (.cells (mgA x.m x.fv x.kv x.hv x.lv) 47)) 56 ty base 47 j0 _ 23 264 Tryz.underlying56 hj hy0 hy1 hy2 rfl (by omega) v l.length (gC mvC l) h2 ⟨w.heap.size, 0, none⟩ 1 1 (mvC x) rfl (fun j u hu => by
    rw [add_none, O.cell]; simpa using hu) (mvC_one h1) (by omega) (by unfold maxLen; omega) (by omega) (by rw [World.size_alloc]; omega) _ rfl
  exact ⟨g, cap, w', r1, OwnG.push r2 rfl, r3⟩
theorem OwnG.beside {α β : Type} {e e' : TypeId} {sz sz' : Nat} {f : α → List Value} {f' : β → List Value} {w w' : World} {base base' : Nat} {l : List α} {l' : List β} {v v' : Value} (h : OwnG e sz f w base l v) (h' : OwnG e' sz' f' w base' l' v') (hne : e ≠ e') (hg : w.grownBy w' v'.ownBlock) : OwnG e sz f w' base l v :=
  World.ownsRow.kept h hg (row_apart h h' hne)
theorem OwnG.beside1 {α β : Type} {e e' : TypeId} {sz sz' : Nat} {f : α → List Value} {f' : β → List Value} {w w' : World} {base base' : Nat} {l : List α} {l' : List β} {v v' : Value} (h : OwnG e sz f w base l v) (h' : OwnG e' sz' f' w base' l' v') (hap : ∀ b, v'.ownBlock = some b → v.ownBlock ≠ some b) (hg : w.grownBy w' v'.ownBlock) : OwnG e sz f w' base l v :=
  World.ownsRow.kept h hg (by
    cases hv : v.ownBlock with
    | none => exact .inl rfl
    | some b => exact .inr fun e => hap b e.symm hv)
structure R2S (W8 : World) (b : Nat) (C : Value → Array Value) (A B : List En) (v9 vL : Value) (wr : World) : Prop where
  d : Own wr b (C vL) 47
  r9 : OwnG 70 11 ec wr W8.heap.size A v9
  rL : OwnG 70 11 ec wr W8.heap.size B vL
  ap : ∀ b, v9.ownBlock = some b → vL.ownBlock ≠ some b
  b : Below W8.heap.size W8 wr
section
variable {W8 wr w' : World} {b : Nat} {C : Value → Array Value} {A B : List En} {v9 vL : Value}
theorem R2S.later (h : R2S W8 b C A B v9 vL wr) (hb : Below wr.heap.size wr w') : R2S W8 b C A B v9 vL w' := ⟨h.d.later hb, h.r9.later hb, h.rL.later hb, h.ap, h.b.trans (hb.mono h.b.size)⟩
theorem R2S.push9 {x : En} {g n cap : Nat} (h : R2S W8 b C A B v9 vL wr) (ho : OwnG 70 11 ec w' W8.heap.size (A ++ [x]) (.slice (some ⟨g, 0, none⟩) n cap)) (hg : (wr.alloc (.cells (eA x) 70)).grownBy w' v9.ownBlock) (hw : v9.ownBlock = some g ∨ wr.heap.size < g) :
    R2S W8 b C (A ++ [x]) B (.slice (some ⟨g, 0, none⟩) n cap) vL w' := by
  have h1 := h.later (w' := wr.alloc (.cells (eA x) 70)) ((Below.refl _ _).alloc (Nat.le_refl _) _)
  refine ⟨h1.d.grown hg (own_apart h1.r9 h1.d et_ne_mt), ho, h1.rL.beside1 h1.r9 h1.ap hg, fun b e => ?_, below_pushG h1.r9 h1.b (Nat.le_refl _) hg h1.b.size⟩
  simp only [Value.ownBlock, Option.some.injEq] at e
  subst e
  rcases hw with hw | hw
  · exact h.ap _ hw
  · intro e
    have := (World.ownsRow.lt h.rL _ e).2
    omega
theorem R2S.pushL {x : En} {g n cap o : Nat} (h : R2S W8 b C A B v9 vL wr) (ho : OwnG 70 11 ec w' W8.heap.size (B ++ [x]) (.slice (some ⟨g, 0, none⟩) n cap)) (hg : (wr.alloc (.cells (eA x) 70)).grownBy w' vL.ownBlock) (hw : vL.ownBlock = some g ∨ wr.heap.size < g)
    (hC : (C vL).setIfInBounds o (.slice (some ⟨g, 0, none⟩) n cap) = C (.slice (some ⟨g, 0, none⟩) n cap)) (hb8 : W8.heap.size ≤ b) :
    R2S W8 b C A (B ++ [x]) v9 (.slice (some ⟨g, 0, none⟩) n cap) (w'.setCell ⟨b, o, none⟩ (.slice (some ⟨g, 0, none⟩) n cap)) := by
  have h1 := h.later (w' := wr.alloc (.cells (eA x) 70)) ((Below.refl _ _).alloc (Nat.le_refl _) _)
  have d1 := h1.d.grown hg (own_apart h1.rL h1.d et_ne_mt)
  have r1 := h1.r9.beside1 h1.rL (fun b e e' => h1.ap b e' e) hg
  have hs := StoreR.sets b [Value.slice (some ⟨g, 0, none⟩) n cap] w' o
  have st : ∀ {l : List En} {v : Value}, OwnG 70 11 ec w' W8.heap.size l v → OwnG 70 11 ec (w'.setCell ⟨b, o, none⟩ (.slice (some ⟨g, 0, none⟩) n cap)) W8.heap.size l v := fun h => World.ownsRow.kept (row := some b) h ⟨rfl, rfl, rfl, by simp [World.setCell], fun k hk hne => Below.heap_setCell _ _ _ _ (fun e => hne (by subst e; rfl))⟩ (by
    cases hv : Value.ownBlock _ with
    | none => exact .inl rfl
    | some q => exact .inr fun e => own_apart h d1 et_ne_mt (by rw [hv]; exact e.symm))
  refine ⟨by rw [← hC]; exact d1.set o _, st r1, st ho, fun b e => ?_, (below_pushG h1.rL h1.b (Nat.le_refl _) hg h1.b.size).setCell (p := ⟨b, o, none⟩) hb8 _⟩
  simp only [Value.ownBlock, ne_eq, Option.some.injEq]
  intro e'
  subst e'
  rcases hw with hw | hw
  · exact h.ap _ e hw
  · have := (World.ownsRow.lt h.r9 _ e).2
    omega
end
structure R3S (W8 : World) (b : Nat) (C : Value → Array Value) (A B : List En) (v9 vL : Value) (l : List Mg) (L : List Mv) (v : Value) (wr : World) : Prop where
  q : R2S W8 b C A B v9 vL wr
  e : L.map (·.m) = l
  r : OwnG 47 23 mvC wr (b + 1) L v
  x : ∀ x ∈ L, OwnG 70 11 ec wr W8.heap.size x.m.l x.lv ∧ x.m.f = noP ∧ x.m.k = noK ∧ x.m.has = [] ∧ x.fv = nilV ∧ x.kv = nilV ∧ x.hv = nilV
section
variable {W8 wr w' : World} {b : Nat} {C : Value → Array Value} {A B : List En} {v9 vL v : Value} {l : List Mg} {L : List Mv}
theorem R3S.later (h : R3S W8 b C A B v9 vL l L v wr) (hb : Below wr.heap.size wr w') : R3S W8 b C A B v9 vL l L v w' := ⟨h.q.later hb, h.e, h.r.later hb, fun x hx => ⟨(h.x x hx).1.later hb, (h.x x hx).2⟩⟩
theorem R3S.push {x : Mv} {g n cap : Nat} (h : R3S W8 b C A B v9 vL l L v wr) (hx : OwnG 70 11 ec wr W8.heap.size x.m.l x.lv ∧ x.m.f = noP ∧ x.m.k = noK ∧ x.m.has = [] ∧ x.fv = nilV ∧ x.kv = nilV ∧ x.hv = nilV) (hb8 : W8.heap.size ≤ b)
    (ho : OwnG 47 23 mvC w' (b + 1) (L ++ [x]) (.slice (some ⟨g, 0, none⟩) n cap)) (hg : (wr.alloc (.cells (mgA x.m x.fv x.kv x.hv x.lv) 47)).grownBy w' v.ownBlock) :
    R3S W8 b C A B v9 vL (l ++ [x.m]) (L ++ [x]) (.slice (some ⟨g, 0, none⟩) n cap) w' := by
  have hb : Below wr.heap.size wr (wr.alloc (.cells (mgA x.m x.fv x.kv x.hv x.lv) 47)) := (Below.refl _ _).alloc (Nat.le_refl _) _
  have h1 := h.later hb
  refine ⟨⟨h1.q.d.grown hg (own_ne h1.r (Nat.lt_succ_self _)), h1.q.r9.beside h1.r et_ne_mt hg, h1.q.rL.beside h1.r et_ne_mt hg, h1.q.ap, below_pushG h1.r h1.q.b (by omega) hg h1.q.b.size⟩, by rw [List.map_append, h.e]; rfl, ho, fun y hy => ?_⟩
  rcases List.mem_append.1 hy with hy | hy
  · exact ⟨(h1.x y hy).1.beside h1.r et_ne_mt hg, (h1.x y hy).2⟩
  · have : y = x := by simpa using hy
    subst this
    exact ⟨(hx.1.later hb).beside h1.r et_ne_mt hg, hx.2⟩
end
end Go.Proofs.YthbjgfennclidaaGreat
/- serve.batches. Walked. -/
namespace Go.Proofs.YthbjgfennclidaaGreat
set_option linter.unusedVariables false
set_option linter.unusedSimpArgs false
set_option maxRecDepth 100000
open Go Go.RowKit Go.Shelf
/-! What the loop keeps. -/
section
variable {α : Type} {e : TypeId} {sz : Nat} {f : α → List Value} {w w' w1 : World} {base : Nat} {l : List α} {v : Value}
theorem OwnG.but {T : Nat → Prop} (h : OwnG e sz f w base l v) (hb : But T w w1) (hT : ∀ b, T b → b < base) : OwnG e sz f w1 base l v := by
  obtain ⟨h1, h2⟩ := h
  refine ⟨h1, ?_⟩
  rcases h2 with h2 | ⟨g, cap, cur, hv, hg, hh, r⟩
  · exact .inl h2
  · have hlt : g < w.heap.size := by
      rcases Nat.lt_or_ge g w.heap.size with hlt | hge
      · exact hlt
      · rw [Array.getElem?_eq_none hge] at hh; cases hh
    exact .inr ⟨g, cap, cur, hv, hg, (hb.blk g hlt (fun ht => by have := hT g ht; omega)).trans hh, r⟩
theorem OwnG.turned {row : Option Nat} (h : OwnG e sz f w base l v) (hg : w.grownBy w1 row) (hr : ∀ r, row = some r → ∃ o : Obj, w.heap[r]? = some o ∧ o.isCells = false) : OwnG e sz f w1 base l v := by
  obtain ⟨h1, h2⟩ := h
  refine ⟨h1, ?_⟩
  rcases h2 with h2 | ⟨g, cap, cur, hv, hgb, hh, r⟩
  · exact .inl h2
  · have hlt : g < w.heap.size := by
      rcases Nat.lt_or_ge g w.heap.size with hlt | hge
      · exact hlt
      · rw [Array.getElem?_eq_none hge] at hh; cases hh
    refine .inr ⟨g, cap, cur, hv, hgb, (hg.block g hlt (fun ht => ?_)).trans hh, r⟩
    obtain ⟨o, ho, hc⟩ := hr g ht.symm
    rw [hh] at ho; cases ho; cases hc
theorem Own.turned {b : Nat} {c : Array Value} {t : TypeId} {row : Option Nat} (h : Own w b c t) (hg : w.grownBy w1 row) (hr : ∀ r, row = some r → ∃ o : Obj, w.heap[r]? = some o ∧ o.isCells = false) : Own w1 b c t :=
  h.grown hg (fun ht => by
    obtain ⟨o, ho, hc⟩ := hr b ht.symm
    rw [h.blk] at ho; cases ho; cases hc)
end
structure MsO (w : World) (B : Nat) (l : List Mg) (L : List Mv) (v : Value) : Prop where
  e : L.map (·.m) = l
  r : OwnG 47 23 mvC w B L v
  x : ∀ x ∈ L, OwnG 70 11 ec w B x.m.l x.lv ∧ x.m.f = noP ∧ x.m.k = noK ∧ x.m.has = [] ∧ x.fv = nilV ∧ x.kv = nilV ∧ x.hv = nilV
section
variable {w w' w1 : World} {B : Nat} {l : List Mg} {L : List Mv} {v : Value}
theorem MsO.but {T : Nat → Prop} (h : MsO w B l L v) (hb : But T w w1) (hT : ∀ b, T b → b < B) : MsO w1 B l L v := ⟨h.e, h.r.but hb hT, fun x hx => ⟨(h.x x hx).1.but hb hT, (h.x x hx).2⟩⟩
theorem MsO.turned {row : Option Nat} (h : MsO w B l L v) (hg : w.grownBy w1 row) (hr : ∀ r, row = some r → ∃ o : Obj, w.heap[r]? = some o ∧ o.isCells = false) : MsO w1 B l L v := ⟨h.e, h.r.turned hg hr, fun x hx => ⟨(h.x x hx).1.turned hg hr, (h.x x hx).2⟩⟩
theorem MsO.push {x : Mv} {g n cap : Nat} (h : MsO w B l L v) (hx : OwnG 70 11 ec w B x.m.l x.lv ∧ x.m.f = noP ∧ x.m.k = noK ∧ x.m.has = [] ∧ x.fv = nilV ∧ x.kv = nilV ∧ x.hv = nilV)
    (ho : OwnG 47 23 mvC w' B (L ++ [x]) (.slice (some ⟨g, 0, none⟩) n cap)) (hg : (w.alloc (.cells (mgA x.m x.fv x.kv x.hv x.lv) 47)).grownBy w' v.ownBlock) : MsO w' B (l ++ [x.m]) (L ++ [x]) (.slice (some ⟨g, 0, none⟩) n cap) := by
  have hb : Below w.heap.size w (w.alloc (.cells (mgA x.m x.fv x.kv x.hv x.lv) 47)) := (Below.refl _ _).alloc (Nat.le_refl _) _
  refine ⟨by rw [List.map_append, h.e]; rfl, ho, fun y hy => ?_⟩
  have hr := h.r.later hb
  rcases List.mem_append.1 hy with hy | hy
  · exact ⟨((h.x y hy).1.later hb).beside hr et_ne_mt hg, (h.x y hy).2⟩
  · have : y = x := by simpa using hy
    subst this
    exact ⟨(hx.1.later hb).beside hr et_ne_mt hg, hx.2⟩
end
theorem chunk_row {w W W2 : World} {l : List En} {oa : Option Addr} {cap b o : Nat} (h : GAt 11 ec w l oa cap b o) (hoa : oa = some ⟨b, o, none⟩) (hbw : b < w.heap.size) (hW : Below w.heap.size w W) (hbut : But (fun k => k = w.heap.size) W W2) {len : Nat} (hn : l.length = len) {j : Nat} (hj : 4 * j < len) : GRow 11 ec W2 (cutE l j) (chV b o len j) := by
  subst hn
  have hlen : (cutE l j).length = min (4 * j + 4) l.length - 4 * j := by unfold cutE; rw [List.length_take, List.length_drop]; omega
  refine ⟨some ⟨b, o + 4 * j * 11, none⟩, _, b, o + 4 * j * 11, by rw [hlen]; rfl, by rw [hlen]; exact Nat.le_refl _, by unfold maxLen; omega, fun _ => ⟨rfl, Nat.lt_of_lt_of_le (Nat.lt_of_lt_of_le hbw hW.size) hbut.size⟩, fun k x hk u z hu => ?_⟩
  have hk4 : k < 4 := by have := (List.getElem?_eq_some_iff.1 hk).1; rw [hlen] at this; omega
  unfold cutE at hk
  rw [List.getElem?_take_of_lt hk4, List.getElem?_drop] at hk
  have h1 := h.cell _ _ hk u z hu
  have e : o + (4 * j + k) * 11 + u = o + 4 * j * 11 + k * 11 + u := by omega
  rw [e] at h1
  exact (hbut.cell (Nat.lt_of_lt_of_le hbw hW.size) (by show ¬ b = _; omega)).trans ((hW.cell (p := ⟨b, _, none⟩) hbw).trans h1)
def preM (m : Mg) (turn : Int) (l : List En) {len : Nat} (pre : List (ChJ len)) : List Mg := pre.mapIdx fun i x => batM m turn i (cutE l x.1)
theorem preM_snoc (m : Mg) (turn : Int) (l : List En) {len : Nat} (pre : List (ChJ len)) (x : ChJ len) : preM m turn l (pre ++ [x]) = preM m turn l pre ++ [batM m turn pre.length (cutE l x.1)] := by
  unfold preM; rw [List.mapIdx_append]; simp
theorem preM_all (m : Mg) (turn : Int) (l : List En) {len : Nat} : ∀ (k : Nat) (hk : ∀ j, j < k → 4 * j < len), preM m turn l (chL len k hk) = batsM m turn l k := by
  intro k
  induction k with
  | zero => intro hk; rfl
  | succ k ih => intro hk; rw [chL_succ, preM_snoc, ih, chL_len, bats_step]
abbrev toA (m : Mg) (turn : Int) (i : Nat) (lv : Value) : Array Value := mgA (batM m turn i []) nilV nilV nilV lv
structure BtS (w : World) (m : Mg) (turn : Int) (l : List En) {len : Nat} (pre : List (ChJ len)) (W : World) : Prop where
  d : ∃ (i : Nat) (lv : Value), lv.oneCell' = true ∧ Own W w.heap.size (toA m turn i lv) 47
  t : ∃ (L : List Mv) (v : Value), Own W (w.heap.size + 1) #[v] 56 ∧ MsO W (w.heap.size + 4) (preM m turn l pre) L v
  z : w.heap.size + 4 ≤ W.heap.size
theorem btS_own (w : World) (m : Mg) (turn : Int) (l : List En) {len : Nat} : Go.Own (fun (pre : List (ChJ len)) W => BtS w m turn l pre W) := by
  rintro pre A B row ⟨⟨i, lv, h1, h2⟩, ⟨L, v, h3, h4⟩, h5⟩ hg hr
  exact ⟨⟨i, lv, h1, h2.turned hg hr⟩, ⟨L, v, h3.turned hg hr, h4.turned hg hr⟩, Nat.le_trans h5 hg.size⟩
abbrev bT (w : World) (k : Nat) : Prop := k = w.heap.size ∨ k = w.heap.size + 1 ∨ w.heap.size + 4 ≤ k
theorem keeps_but {b : Nat} {c : Array Value} {t : TypeId} {W W' : World} (h : Own W b c t) (hb : But (fun k => k = b) W W') : KeepsOthers W W' :=
  ⟨hb.size, fun k o hk hc => (hb.blk k (Array.getElem?_eq_some_iff.1 hk).1 (fun e => by subst e; rw [h.blk] at hk; cases hk; cases hc)).trans hk⟩
theorem keeps_row {v : Value} {α : Type} {e : TypeId} {sz : Nat} {f : α → List Value} {w w1 : World} {base : Nat} {l : List α} (h : OwnG e sz f w base l v) (hg : w.grownBy w1 v.ownBlock) : KeepsOthers w w1 :=
  KeepsOthers.of_grownBy hg (fun j o hj ho => by
    rcases h.2 with ⟨rfl, _⟩ | ⟨g, cap, cur, rfl, _, hh, _⟩
    · cases hj
    · cases hj; rw [hh] at ho; cases ho; rfl)
theorem bts_step {w W ws w' : World} {m : Mg} {turn : Int} {l : List En} {len : Nat} {pre : List (ChJ len)} {x : ChJ len} {L : List Mv} {v vL : Value} {i0 : Nat} {lv0 : Value} {g n cap : Nat} (hto : Own W w.heap.size (toA m turn i0 lv0) 47) (hW4 : w.heap.size + 4 ≤ W.heap.size)
    (hbut : But (fun k => k = w.heap.size) W ws) (hms : MsO ws (w.heap.size + 4) (preM m turn l pre) L v) (hv : OwnG 70 11 ec ws (w.heap.size + 4) (cutE l x.1) vL) (hz : vL.oneCell' = true)
    (OTO : Own ws w.heap.size (toA m turn pre.length vL) 47) (OTD : Own ws (w.heap.size + 1) #[v] 56) (hb : Below w.heap.size w ws)
    (ho : OwnG 47 23 mvC w' (w.heap.size + 4) (L ++ [⟨batM m turn pre.length (cutE l x.1), nilV, nilV, nilV, vL⟩]) (.slice (some ⟨g, 0, none⟩) n cap))
    (hg : (ws.alloc (.cells (toA m turn pre.length vL) 47)).grownBy w' v.ownBlock) :
    KeepsOthers W (w'.setCell ⟨w.heap.size + 1, 0, none⟩ (.slice (some ⟨g, 0, none⟩) n cap)) ∧ But (bT w) W (w'.setCell ⟨w.heap.size + 1, 0, none⟩ (.slice (some ⟨g, 0, none⟩) n cap)) ∧
      BtS w m turn l (pre ++ [x]) (w'.setCell ⟨w.heap.size + 1, 0, none⟩ (.slice (some ⟨g, 0, none⟩) n cap)) ∧ Below w.heap.size w (w'.setCell ⟨w.heap.size + 1, 0, none⟩ (.slice (some ⟨g, 0, none⟩) n cap)) := by
  have hal : Below ws.heap.size ws (ws.alloc (.cells (toA m turn pre.length vL) 47)) := (Below.refl _ _).alloc (Nat.le_refl _) _
  have hrA : OwnG 47 23 mvC (ws.alloc (.cells (toA m turn pre.length vL) 47)) (w.heap.size + 4) L v := hms.r.later hal
  have hsz : w'.heap.size ≤ (w'.setCell ⟨w.heap.size + 1, 0, none⟩ (.slice (some ⟨g, 0, none⟩) n cap)).heap.size := by simp [World.setCell]
  have hz1 := hbut.size
  have hz2 := hal.size
  have hz3 := hg.size
  have hgb : ∀ k, v.ownBlock = some k → w.heap.size + 4 ≤ k := fun k hk => (World.ownsRow.lt hrA k hk).1
  have hbt : But (fun k => k = w.heap.size + 1) w' (w'.setCell ⟨w.heap.size + 1, 0, none⟩ (.slice (some ⟨g, 0, none⟩) n cap)) := But.set (T := fun k => k = w.heap.size + 1) rfl _
  have hmp := hms.push (x := ⟨batM m turn pre.length (cutE l x.1), nilV, nilV, nilV, vL⟩) ⟨hv, rfl, rfl, rfl, rfl, rfl, rfl⟩ ho hg
  refine ⟨(((keeps_but hto hbut).trans (KeepsOthers.alloc ws _)).trans (keeps_row hrA hg)).trans (KeepsOthers.setCell _ _ _), ?_, ⟨⟨pre.length, vL, hz, ((OTO.later hal).grown hg (fun e => by have := hgb _ e.symm; omega)).setFar _ _ (by show _ ≠ w.heap.size + 1; omega)⟩, ⟨L ++ [⟨batM m turn pre.length (cutE l x.1), nilV, nilV, nilV, vL⟩], .slice (some ⟨g, 0, none⟩) n cap, ((OTD.later hal).grown hg (fun e => by have := hgb _ e.symm; omega)).set 0 _, ?_⟩, by omega⟩, ?_⟩
  · refine But.trans (But.trans (hbut.mono' (fun b hb => .inl hb)) (But.of hal)) ?_
    refine But.trans (w' := w') ⟨hg.size, fun b hb ht => hg.block b hb (fun e => ht (.inr (.inr (hgb _ e.symm))))⟩ (hbt.mono' (fun b hb => .inr (.inl hb)))
  · rw [preM_snoc]
    exact hmp.but hbt (fun b hb => by have : b = w.heap.size + 1 := hb; omega)
  · exact (((hb.trans (hal.mono hb.size)).grown hg (Nat.le_trans hb.size hz2) (fun k hk => by have := hgb k hk; omega)).setCell (p := ⟨w.heap.size + 1, 0, none⟩) (by show _ ≤ w.heap.size + 1; omega) _)
attribute [local go_sem] Oper.semAt_some
set_option maxRecDepth 100000 in
set_option maxHeartbeats 4000000 in
theorem batches_in (m : Mg) (turn : Int) (l : List En) (oa : Option Addr) (cap : Nat) (w : World) (b o : Nat) (hl : GAt 11 ec w l oa cap b o) (hsm : l.length ≤ 20000) :
    CallsIn Fence.wide 5 Tryz.prog 57 #[.agg (mgA (toM m turn) nilV nilV nilV nilV), .slice oa l.length cap] w fun e W' => ∃ (k : Nat) (L : List Mv) (v : Value), l.length ≤ 4 * k ∧ (∀ j, j < k → 4 * j < l.length) ∧ e = .returned v ∧ MsO W' (w.heap.size + 4) (batsM m turn l k) L v ∧ w.heap.size + 4 ≤ W'.heap.size ∧ Below w.heap.size w W' := by
  have HL := Lib.hid hl
  have hoa : 0 < l.length → oa = some ⟨b, o, none⟩ := fun h => (hl.at0 h).1
  have hlen := hl.len
  have hcap := hl.max
  clear hl
  generalize hn : l.length = len at *
  have HN := Lib.hid hn
  clear hn
  refine callsIn_of_wp_marks Tryz.func57 rfl trivial ?_ rfl
  simp only [Tryz.ntmps57, List.size_toArray, List.length_cons, List.length_nil, Nat.reduceAdd, Nat.reduceSub, Array.replicate_succ, Array.replicate_zero, List.push_toArray, List.append_toArray, List.nil_append, List.cons_append]
  have hck := fun w => callsIn_wide (n := 4).2 (chunk_calls oa len cap w)
  gi_wp2_with (refine ⟨trivial, ?_⟩; gi_at_call 111; refine (hck _).mono ?_; rintro e w' ⟨rfl, rfl⟩)
  have B0 : Below w.heap.size w ((((w.alloc (.cells (toA m turn 0 nilV) 47)).alloc (.cells #[.slice none 0 0] 56)).alloc (.cells #[.slice oa len cap] 45)).alloc (.cells #[.int .i64 4] 3)) := ((((Below.refl w.heap.size w).alloc (Nat.le_refl _) (.cells (toA m turn 0 nilV) 47)).alloc (by simp) (.cells #[.slice none 0 0] 56)).alloc (by simp; omega) (.cells #[.slice oa len cap] 45)).alloc (by simp; omega) (.cells #[.int .i64 4] 3)
  have cs := (Has.new (((w.alloc (.cells (toA m turn 0 nilV) 47)).alloc (.cells #[.slice none 0 0] 56))) #[.slice oa len cap] 45).alloc (.cells #[.int .i64 4] 3)
  have cn := Has.new ((((w.alloc (.cells (toA m turn 0 nilV) 47)).alloc (.cells #[.slice none 0 0] 56)).alloc (.cells #[.slice oa len cap] 45))) #[.int .i64 4] 3
  have O0 := (((Own.new w (toA m turn 0 nilV) 47).alloc (.cells #[.slice none 0 0] 56)).alloc (.cells #[.slice oa len cap] 45)).alloc (.cells #[.int .i64 4] 3)
  have O1 := ((Own.newAt (w.alloc (.cells (toA m turn 0 nilV) 47)) #[.slice none 0 0] 56 (b := w.heap.size + 1) (by simp)).alloc (.cells #[.slice oa len cap] 45)).alloc (.cells #[.int .i64 4] 3)
  have hst := chunk_stops 4 (by omega) (w.heap.size + 1 + 1) (w.heap.size + 1 + 1 + 1) len cap (bT w) oa b o (by omega) hlen hcap hoa ((((w.alloc (.cells (toA m turn 0 nilV) 47)).alloc (.cells #[.slice none 0 0] 56)).alloc (.cells #[.slice oa len cap] 45)).alloc (.cells #[.int .i64 4] 3)) (by unfold bT; omega) (by unfold bT; omega) (by simpa using cs.cell 0) (by simpa using cn.cell 0)
  clear cs cn
  refine wpIn_rangeFunc_ownF rfl (by omega) (gf := 165) (lb := #[.pointer (some ⟨w.heap.size + 1 + 1, 0, none⟩), .pointer (some ⟨w.heap.size + 1 + 1 + 1, 0, none⟩)]) rfl trivial (enters_of Tryz.func165 (by kernel_rfl) rfl)
    hst But.trans (fun W k o o' hk _ _ _ => ⟨(grownBy_putObj' W k o').size, fun j hj hT => (grownBy_putObj' W k o').block j hj (fun e => hT (by cases e; unfold bT; simp at hk; omega))⟩) (Below.refl _ _) (fun _ => rfl)
    (fun pre W => BtS w m turn l pre W ∧ Below w.heap.size w W)
    (fun _ _ _ => False)
    (OwnFrom.and (Go.Own.from (btS_own w m turn l) _) (ownFrom_below (Nat.le_refl _) (by simp; omega)))
    (fun _ _ _ _ _ hs _ _ => hs)
    ⟨⟨⟨0, nilV, rfl, O0⟩, ⟨[], .slice none 0 0, O1, ⟨rfl, OwnG.nil, fun x hx => by cases hx⟩⟩, by simp⟩, B0⟩
    (fun x => { tmps := #[.agg (mgA (toM m turn) nilV nilV nilV nilV), .slice oa len cap, .pointer (some ⟨w.heap.size, 0, none⟩), undef, .slice none 0 0, .pointer (some ⟨w.heap.size + 1, 0, none⟩), chV b o len x.1, .pointer (some ⟨w.heap.size, 0, none⟩), .slice oa len cap, .func (.func 165) #[] #[.pointer (some ⟨w.heap.size + 1 + 1, 0, none⟩), .pointer (some ⟨w.heap.size + 1 + 1 + 1, 0, none⟩)], chV b o len x.1, undef, undef, undef, undef, undef, undef, undef, undef, undef, undef, undef], defers := [] }) ?assign ?body ?done ?stop
  case assign =>
    intro l x W K hK
    gi_wp2
    exact hK
  case body =>
    rintro lr pre x W ⟨⟨⟨i0, lv0, hv0, hto⟩, ⟨L, v, htd, hms⟩, hz4⟩, hbl⟩ hpl
    obtain ⟨oav, capv, ev⟩ := hms.r.val
    have hLl : L.length = pre.length := by rw [← List.length_map (f := (·.m)), hms.e]; unfold preM; simp
    rw [hLl] at ev
    subst ev
    have HLL := Lib.hid hLl
    clear hLl
    have hx4 := x.2
    have hoa1 := hoa (by omega)
    have hbw : b < w.heap.size := (HL.out.at0 (by rw [HN.out]; omega)).2
    have PS := Lib.hid (show Sure (fun k => k = w.heap.size) W (fun w9 => But (fun k => k = w.heap.size) W w9 ∧ MsO w9 (w.heap.size + 4) (preM m turn l pre) L (.slice oav pre.length capv) ∧ GRow 11 ec w9 (cutE l x.1) (chV b o len x.1)) from fun w9 h9 => ⟨h9, hms.but h9 (fun b hb => by have : b = w.heap.size := hb; omega), chunk_row HL.out hoa1 hbw hbl h9 HN.out hx4⟩)
    have OTO := Lib.hid hto
    have HTO := Lib.hid hto
    have OTD := Lib.hid htd
    have BEL := Lib.hid hbl
    have HMS := Lib.hid hms
    have HW4 := Lib.hid hz4
    clear hto htd hbl hms hst O0 O1 B0 hck
    have zW := HW4.out
    gi_wp2
    rename_i QX KX hKX
    refine monoN_startIn (T := fun k => k = w.heap.size) (D := fun k => k == 5 || k == 7) (by kernel_rfl) (fun ⟨_, _, h⟩ => h) (by intro i o c h; rcases i with _ | _ | _ | _ | _ | _ | _ | _ | i <;> simp at h <;> (first | (subst h; simp) | (cases h))) (fun wd hbd => ?_)
    replace OTO := Lib.hid (OTO.out.later hbd)
    replace OTD := Lib.hid (OTD.out.later hbd)
    replace BEL := Lib.hid (BEL.out.trans (Below.mono hbd BEL.out.size))
    replace PS := Lib.hid (PS.out.later hbd)
    clear hbd
    refine monoN_stay (i := 0) (v := ?_) rfl (by kernel_rfl) (by kernel_rfl) (by kernel_rfl) (fun _ _ _ h => h) (Or.inl ⟨by rfl, ?_⟩) ?_
    rotate_left 1
    · (intro wL hL; have lL := (OTD.out.but hL (by show ¬ _ = _; omega)).cell; have zL := (OTD.out.but hL (by show ¬ _ = _; omega)).lt; go_simp; try with_reducible rfl)
    try simp only [Act.put, List.getElem_toArray, List.getElem_cons_zero, List.getElem_cons_succ, List.setIfInBounds_toArray, List.set_cons_zero, List.set_cons_succ]
    refine monoN_stay (i := 1) (v := ?_) rfl (by kernel_rfl) (by kernel_rfl) (by kernel_rfl) (fun _ _ _ h => h) (Or.inl ⟨by rfl, ?_⟩) ?_
    rotate_left 1
    · (intro wL hL; go_simp; try with_reducible rfl)
    try simp only [Act.put, List.getElem_toArray, List.getElem_cons_zero, List.getElem_cons_succ, List.setIfInBounds_toArray, List.set_cons_zero, List.set_cons_succ]
    refine monoN_stay (i := 2) (v := ?_) rfl (by kernel_rfl) (by kernel_rfl) (by kernel_rfl) (fun _ _ _ h => h) (Or.inl ⟨by rfl, ?_⟩) ?_
    rotate_left 1
    · (intro wL hL; go_simp; try with_reducible rfl)
    try simp only [Act.put, List.getElem_toArray, List.getElem_cons_zero, List.getElem_cons_succ, List.setIfInBounds_toArray, List.set_cons_zero, List.set_cons_succ]
    refine monoN_stay (i := 4) (v := ?_) rfl (by kernel_rfl) (by kernel_rfl) (by kernel_rfl) (fun _ _ _ h => h) (Or.inl ⟨by rfl, ?_⟩) ?_
    rotate_left 1
    · (intro wL hL; go_simp; try with_reducible rfl)
    try simp only [Act.put, List.getElem_toArray, List.getElem_cons_zero, List.getElem_cons_succ, List.setIfInBounds_toArray, List.set_cons_zero, List.set_cons_succ]
    refine monoN_r1 (i := 3) (by kernel_rfl) ?_
    have z3OTO := OTO.out.lt
    have z3OTD := OTD.out.lt
    refine stepN_call (by rfl) (by rfl) (fun K hK => ?_)
    try simp only [List.getElem_toArray, List.getElem_cons_zero, List.getElem_cons_succ]
    have zD := PS.out.now.1.size; go_simp; go_at_call 75; refine (cloneE_calls (cutE l x.1) (chV b o len x.1) _ PS.out.now.2.2 (by unfold cutE; rw [List.length_take]; omega)).mono ?_; rintro e wc ⟨vL, rfl, hvL, hb⟩
    try go_wp2_with fail
    refine hK.out _ _ (fun _ => hb) (But.of hb) ?_
    clear hK K
    replace OTO := Lib.hid (OTO.out.later hb)
    replace OTD := Lib.hid (OTD.out.later hb)
    replace BEL := Lib.hid (BEL.out.trans (Below.mono hb BEL.out.size))
    replace PS := Lib.hid (PS.out.later hb)
    obtain ⟨ov, cv, rfl⟩ := hvL.val
    have SV := Lib.hid (show Sure (fun k => k = w.heap.size) wc (fun w9 => OwnG 70 11 ec w9 (w.heap.size + 4) (cutE l x.1) (.slice ov (cutE l x.1).length cv)) from fun w9 h9 => (hvL.base (by omega)).but h9 (fun b hb => by have : b = w.heap.size := hb; omega))
    have ZV := Lib.hid (own_len hvL)
    clear hvL
    clear hb
    try simp only [Act.put, List.getElem_toArray, List.getElem_cons_zero, List.getElem_cons_succ, List.setIfInBounds_toArray, List.set_cons_zero, List.set_cons_succ]
    refine monoN_r1 (i := 5) (by kernel_rfl) ?_
    refine stepN_store1 (by rfl) (by rfl) (w.heap.size) (20) (.int .i64 ((pre.length : Nat) : Int)) OTO.out (by have lL := OTO.out.cell; have fL := OTO.out.free; have zL := OTO.out.lt; go_simp; try rfl) (by rfl) (rfl) (fun ws hs ho => ?_)
    replace OTD := Lib.hid (OTD.out.stored hs (by omega))
    replace BEL := Lib.hid (hs.bel (by omega) BEL.out)
    replace PS := Lib.hid (PS.out.stored hs (rfl))
    replace SV := Lib.hid (SV.out.stored hs (rfl))
    replace OTO := Lib.hid ho
    clear hs ho
    try simp only [Act.put, List.getElem_toArray, List.getElem_cons_zero, List.getElem_cons_succ, List.setIfInBounds_toArray, List.set_cons_zero, List.set_cons_succ]
    refine monoN_stay (i := 6) (v := ?_) rfl (by kernel_rfl) (by kernel_rfl) (by kernel_rfl) (fun _ _ _ h => h) (Or.inl ⟨by rfl, ?_⟩) ?_
    rotate_left 1
    · (intro wL hL; go_simp; try with_reducible rfl)
    try simp only [Act.put, List.getElem_toArray, List.getElem_cons_zero, List.getElem_cons_succ, List.setIfInBounds_toArray, List.set_cons_zero, List.set_cons_succ]
    refine monoN_r1 (i := 7) (by kernel_rfl) ?_
    refine stepN_store1 (by rfl) (by rfl) (w.heap.size) (21) ((.slice ov (cutE l x.1).length cv)) OTO.out (by have lL := OTO.out.cell; have fL := OTO.out.free; have zL := OTO.out.lt; go_simp; try rfl) (by rfl) (rfl) (fun ws hs ho => ?_)
    replace OTD := Lib.hid (OTD.out.stored hs (by omega))
    replace BEL := Lib.hid (hs.bel (by omega) BEL.out)
    replace PS := Lib.hid (PS.out.stored hs (rfl))
    replace SV := Lib.hid (SV.out.stored hs (rfl))
    replace OTO := Lib.hid ho
    clear hs ho
    try simp only [Act.put, List.getElem_toArray, List.getElem_cons_zero, List.getElem_cons_succ, List.setIfInBounds_toArray, List.set_cons_zero, List.set_cons_succ]
    refine monoN_done (by kernel_rfl) ?_ _
    refine hKX _ _ ?_
    refine region_litIn (fun ⟨_, _, h⟩ => h) (by intro o ho c; simp at ho; rcases ho with rfl | rfl | rfl | rfl | rfl <;> simp) ?_
    replace OTO := Lib.hid (show Own _ w.heap.size (toA m turn pre.length (.slice ov (cutE l x.1).length cv)) 47 from OTO.out)
    have ST := fun g n cap w2 => bts_step (g := g) (n := n) (cap := cap) (w' := w2) HTO.out zW PS.out.now.1 PS.out.now.2.1 SV.out.now ZV.out OTO.out OTD.out BEL.out
    have HST := Lib.hid ST
    clear ST
    obtain ⟨g7, cap7, w7, hrun, ho7, hg7⟩ := run_push_mg 56 ⟨batM m turn pre.length (cutE l x.1), nilV, nilV, nilV, .slice ov (cutE l x.1).length cv⟩ PS.out.now.2.1.r ⟨rfl, rfl, rfl, ZV.out⟩ (by rw [HLL.out]; omega) (by have := PS.out.now.1.size; omega)
    have O7 := (OTD.out.later ((Below.refl _ _).alloc (Nat.le_refl _) (.cells (toA m turn pre.length (.slice ov (cutE l x.1).length cv)) 47))).grown hg7 (fun e => by have := (World.ownsRow.lt PS.out.now.2.1.r _ e.symm).1; omega)
    have HRES := Lib.hid (HST.out g7 _ cap7 w7 ho7 hg7)
    have l7 := O7.cell
    have f7 := O7.free
    have z7 := O7.lt
    have lT := OTD.out.cell
    have zT := OTD.out.lt
    go_wp2_with (first | (refine wpList_load_mid (by rfl) 47 _ (by rfl) w.heap.size 0 (by rfl) (toA m turn pre.length (.slice ov (cutE l x.1).length cv)).toList _ (OTO.out.part 0 _ (by rfl)) Tryz.underlying47 (by rfl) (by kernel_rfl) ?_) | (at_builtin; refine Lib.wpList_append_run _ rfl _ _ _ _ rfl _ _ rfl rfl _ _ hrun ?_))
    exact HRES.out
  case done =>
    rintro D ys W hD ⟨k, hk, rfl, hk4⟩ ⟨⟨_, ⟨L, v, htd, hms⟩, hz9⟩, hbl⟩ hK
    rw [preM_all] at hms
    have lT := htd.cell
    have zT := htd.lt
    have HM := Lib.hid hms
    clear hms htd
    gi_wp2
    refine ⟨by simp, .inl ⟨_, _, rfl, run_takeDeferred hK, ?_⟩⟩
    exact ⟨_, results_tmp rfl _ _ _, k, L, v, hk4, hk, rfl, HM.out.turned (grownBy_putObj' _ D _) (fun r e => by cases e; exact ⟨_, hK, rfl⟩), Nat.le_trans hz9 (grownBy_putObj' W D _).size, hbl.trans (belowK_b (w := w) (Nat.le_refl _) W D _ _ (by simp at hD; omega) hK rfl rfl)⟩
  case stop =>
    rintro D c pre W _ _ h _
    exact h.elim
theorem manyE_is {l : List En} {k : Nat} (h : l.length ≤ 4 * k) (hk : ∀ j, j < k → 4 * j < l.length) : k = manyE l := by
  unfold manyE
  rcases Nat.eq_zero_or_pos k with rfl | h0
  · omega
  · have := hk (k - 1) (by omega); omega
theorem batches_calls (m : Mg) (turn : Int) (l : List En) (v : Value) (w : World) (hl : GRow 11 ec w l v) (hsm : l.length ≤ 20000) :
    Calls Tryz.prog 57 #[.agg (mgA (toM m turn) nilV nilV nilV nilV), v] w fun e W' => ∃ (L : List Mv) (v' : Value), e = .returned v' ∧ MsO W' (w.heap.size + 4) (batsM m turn l (manyE l)) L v' ∧ w.heap.size + 4 ≤ W'.heap.size ∧ Below w.heap.size w W' := by
  obtain ⟨oa, cap, b, o, rfl, h⟩ := hl
  refine (callsIn_wide.1 (batches_in m turn l oa cap w b o h hsm)).mono ?_
  rintro e W' ⟨k, L, v', h1, h2, rfl, h3, h5, h4⟩
  rw [manyE_is h1 h2] at h3
  exact ⟨L, v', rfl, h3, h5, h4⟩
end Go.Proofs.YthbjgfennclidaaGreat
/- The document's Open of layer 11. Walked. -/
namespace Go.Proofs.YthbjgfennclidaaGreat
set_option linter.unusedVariables false
set_option linter.unusedSimpArgs false
set_option maxRecDepth 100000
open Go Go.RowKit
theorem info_hasR : (Tryz.prog.info? 74).map (fun i => (i.zero, i.size, i.bytes)) = some (some (.agg #[.string ⟨#[]⟩, .int .i64 0, .int .i64 0, .int .i64 0]), 4, 40) := by kernel_rfl
theorem hc_one (i : Itm) : ∀ u ∈ hc i, u.oneCell' = true := by
  intro u hu
  simp only [hc, List.mem_cons, List.not_mem_nil, or_false] at hu
  rcases hu with rfl | rfl | rfl | rfl <;> rfl
structure RaS (w : World) (A Z X : Array Value) (l : List Itm) (bm k : Nat) (M : Value → Array Value) (hv : Value) (wr : World) : Prop where
  a : Own wr w.heap.size A 52
  x : Own wr (w.heap.size + 1) X 61
  z : Own wr (w.heap.size + 2) Z 47
  m : Own wr bm (M hv) 47
  r : OwnG 74 4 hc wr (bm + 1) (l.take k) hv
  b : Below w.heap.size w wr
def RaRel (w : World) (A Z X : Array Value) (l : List Itm) (len bm : Nat) (M : Value → Array Value) (i : Value) (wr : World) : Prop :=
  ∃ (k : Nat) (hv : Value), k ≤ len ∧ i = .int .i64 k ∧ Hid (RaS w A Z X l bm k M hv wr)
set_option maxRecDepth 100000 in
set_option maxHeartbeats 8000000 in
theorem refAsk_calls (s : St) (fv sv ov kv : Value) (wth sid : Int) (w : World) (hS : StW w s fv sv ov kv) (h1 : s.store.length ≤ 1000) :
    Calls Tryz.prog 19 #[stV s fv sv ov kv, .int .i64 wth, .int .i64 sid] w fun e w' => ∃ hv', e = .returned (.tuple #[.agg (ssA (askX s wth sid) nilV nilV nilV), .agg (mgA (askO s wth sid) fv kv hv' nilV)]) ∧ Sure (fun b => b < w.heap.size) w' (fun w => GRow 4 hc w s.store hv') ∧ Below w.heap.size w w' := by
  obtain ⟨of_, cf, rfl⟩ := lies_val hS.lf
  obtain ⟨ok_, ck, rfl⟩ := hS.lk.val
  obtain ⟨oa, cap, b, o, rfl, hr⟩ := hS.ls
  obtain ⟨oo, co, rfl⟩ := hS.lo.val
  obtain ⟨i0, hi0, hz0, hz1, hz2⟩ := info_parts info_hasR
  have HR := Lib.hid hr
  have hcap := hr.len
  have hmax := hr.max
  unfold maxLen at hmax
  clear hr hS
  generalize hlen : s.store.length = len at *
  have HLEN := Lib.hid hlen
  clear hlen
  have OA := Lib.hid (((Own.new w (stA s (.slice of_ s.f.kids.length cf) (.slice oa len cap) (.slice oo s.out.length co) (.slice ok_ s.k.l.length ck)) 52).alloc (.cells ssZ 61)).alloc (.cells mgZ 47))
  have OX := Lib.hid ((Own.newAt (w.alloc (.cells (stA s (.slice of_ s.f.kids.length cf) (.slice oa len cap) (.slice oo s.out.length co) (.slice ok_ s.k.l.length ck)) 52)) ssZ 61 (b := w.heap.size + 1) (by simp)).alloc (.cells mgZ 47))
  have OM := Lib.hid (Own.newAt ((w.alloc (.cells (stA s (.slice of_ s.f.kids.length cf) (.slice oa len cap) (.slice oo s.out.length co) (.slice ok_ s.k.l.length ck)) 52)).alloc (.cells ssZ 61)) mgZ 47 (b := w.heap.size + 2) (by simp))
  have BEL := Lib.hid ((((Below.refl w.heap.size w).alloc (Nat.le_refl _) (.cells (stA s (.slice of_ s.f.kids.length cf) (.slice oa len cap) (.slice oo s.out.length co) (.slice ok_ s.k.l.length ck)) 52)).alloc (by simp) (.cells ssZ 61)).alloc (by simp; omega) (.cells mgZ 47))
  go_enter Tryz.func19, Tryz.ntmps19
  go_upto_region 1 with fail
  revert OA OX OM BEL
  generalize World.alloc (World.alloc (World.alloc _ _) _) _ = W1
  intro OA OX OM BEL
  have l0 := OA.out.cell
  have z0 := OA.out.lt
  have O8 := Lib.hid (Own.new W1 mgZ 47)
  go_upto_region 2 with (first
    | (refine wpList_load_mid (by rfl) 31 _ (by rfl) w.heap.size 8 (by rfl) (knA s.k.star (.slice ok_ s.k.l.length ck)).toList _ (OA.out.part 8 _ (by rfl)) Tryz.underlying31 (by rfl) (by kernel_rfl) ?_)
    | (refine wpList_store_mid (by rfl) 47 _ _ (by rfl) W1.heap.size 0 (mgA (askO s wth sid) (.slice of_ s.f.kids.length cf) (.slice ok_ s.k.l.length ck) nilV nilV) (by rfl) (by rfl) (O8.out.there (by rfl)) (by kernel_rfl) (by simp [Value.oneCell']) ?_)
    | fail)
  have zs : w.heap.size + 2 < W1.heap.size := OM.out.lt
  have HB : Hid (Later W1 (World.setCells (W1.alloc (.cells mgZ 47)) W1.heap.size 0 (mgA (askO s wth sid) (.slice of_ s.f.kids.length cf) (.slice ok_ s.k.l.length ck) nilV nilV).toList)) := Lib.hid (below_sets (Nat.le_refl _) _ _ ((Below.refl _ _).alloc (Nat.le_refl _) _))
  have OB := Lib.hid (O8.out.sets (mgA (askO s wth sid) (.slice of_ s.f.kids.length cf) (.slice ok_ s.k.l.length ck) nilV nilV).toList (by rfl))
  clear l0 z0 O8
  revert HB OB
  generalize World.setCells _ _ _ _ = W2
  intro HB OB
  replace OA := Lib.hid (OA.out.later HB.out)
  replace OX := Lib.hid (OX.out.later HB.out)
  replace OM := Lib.hid (OM.out.later HB.out)
  replace BEL := Lib.hid (BEL.out.trans (Below.mono HB.out BEL.out.size))
  clear HB
  generalize W1.heap.size = bm at *
  have AS : Hid (RaS w (stA s (.slice of_ s.f.kids.length cf) (.slice oa len cap) (.slice oo s.out.length co) (.slice ok_ s.k.l.length ck)) mgZ ssZ s.store bm 0 (fun hv => (mgA (askO s wth sid) (.slice of_ s.f.kids.length cf) (.slice ok_ s.k.l.length ck) hv nilV)) nilV W2) := Lib.hid ⟨OA.out, OX.out, OM.out, OB.out, OwnG.nil, BEL.out⟩
  clear OA OX OM OB BEL
  simp only [Act.put]
  have lA := AS.out.a.cell
  have zA := AS.out.a.lt
  go_wp2_with fail
  go_loopw [9] (fun i wr => RaRel w (stA s (.slice of_ s.f.kids.length cf) (.slice oa len cap) (.slice oo s.out.length co) (.slice ok_ s.k.l.length ck)) mgZ ssZ s.store len bm (fun hv => (mgA (askO s wth sid) (.slice of_ s.f.kids.length cf) (.slice ok_ s.k.l.length ck) hv nilV)) i wr) (fun i _ => len - (intOf i).toNat)
  case atStart => exact ⟨0, nilV, Nat.zero_le _, rfl, AS⟩
  case round =>
    clear AS lA zA
    obtain ⟨k, hv, hk, rfl, AS⟩ := hrel
    have lA := AS.out.a.cell
    have zA := AS.out.a.lt
    by_cases hlt : k < len
    · obtain ⟨i, hi⟩ : ∃ i, s.store[k]? = some i := ⟨_, List.getElem?_eq_getElem (by rw [HLEN.out]; exact hlt)⟩
      obtain ⟨rfl, hb0⟩ := HR.out.at0 (by rw [HLEN.out]; omega)
      have HI := Lib.hid hi
      have hkl : (s.store.take k).length = k := by rw [List.length_take, HLEN.out]; omega
      have HTK := Lib.hid hkl
      have k0 : (0 : Int) ≤ (k : Int) := by omega
      have k1 : (k : Int) < (len : Int) := by omega
      clear hi hkl
      go_upto_region 5 with fail
      have HO : Hid (wr.ownsRow (bm + 1) 74 4 hv k (gC hc (s.store.take k))) := Lib.hid (by have := AS.out.r; unfold OwnG at this; rwa [HTK.out] at this)
      obtain ⟨oh, ch, gh, rfl, _, _, _⟩ := row_slice HO.out
      have OA := Lib.hid AS.out.a
      have OX := Lib.hid AS.out.x
      have OM := Lib.hid AS.out.z
      have OB := Lib.hid AS.out.m
      have BEL := Lib.hid AS.out.b
      have zM : w.heap.size + 2 < bm := zs
      have zB := OB.out.lt
      have hnT : ∀ q, q < w.heap.size → ¬ bm ≤ q := fun q hq => by omega
      clear AS lA zA
      refine monoN_start (T := fun q => bm ≤ q) (D := fun k => k == 22 || k == 24) (by kernel_rfl) (fun wd hbd => ?_)
      replace OA := Lib.hid (OA.out.later hbd)
      replace OX := Lib.hid (OX.out.later hbd)
      replace OM := Lib.hid (OM.out.later hbd)
      replace OB := Lib.hid (OB.out.later hbd)
      replace BEL := Lib.hid (BEL.out.trans (Below.mono hbd BEL.out.size))
      replace HO := Lib.hid (ownsRow_below HO.out hbd)
      clear hbd
      refine monoN_stay (i := 0) (v := ?_) rfl (by kernel_rfl) (by kernel_rfl) (by kernel_rfl) (fun _ _ _ h => h) (Or.inl ⟨by rfl, ?_⟩) ?_
      rotate_left 1
      · (intro wL hL; go_simp; try with_reducible rfl)
      try simp only [Act.put, List.getElem_toArray, List.getElem_cons_zero, List.getElem_cons_succ, List.setIfInBounds_toArray, List.set_cons_zero, List.set_cons_succ]
      refine monoN_take (i := 1) (v := ?_) rfl (by kernel_rfl) (by kernel_rfl) (by kernel_rfl) (by kernel_rfl) (fun _ _ _ h => h) (Or.inl ⟨by rfl, ?_⟩) ?_
      rotate_left 1
      · (intro wL hL; have lL := (OB.out.later hL).cell; have zL := (OB.out.later hL).lt; go_simp; try with_reducible rfl)
      try simp only [Act.put, List.getElem_toArray, List.getElem_cons_zero, List.getElem_cons_succ, List.setIfInBounds_toArray, List.set_cons_zero, List.set_cons_succ]
      refine monoN_stay (i := 2) (v := ?_) rfl (by kernel_rfl) (by kernel_rfl) (by kernel_rfl) (fun _ _ _ h => h) (Or.inl ⟨by rfl, ?_⟩) ?_
      rotate_left 1
      · (intro wL hL; go_simp; try with_reducible rfl)
      try simp only [Act.put, List.getElem_toArray, List.getElem_cons_zero, List.getElem_cons_succ, List.setIfInBounds_toArray, List.set_cons_zero, List.set_cons_succ]
      refine monoN_stay (i := 3) (v := ?_) rfl (by kernel_rfl) (by kernel_rfl) (by kernel_rfl) (fun _ _ _ h => h) (Or.inl ⟨by rfl, ?_⟩) ?_
      rotate_left 1
      · (intro wL hL; have lL := (OA.out.but hL (by show ¬ bm ≤ _; omega)).cell; have zL := (OA.out.but hL (by show ¬ bm ≤ _; omega)).lt; go_simp; try with_reducible rfl)
      try simp only [Act.put, List.getElem_toArray, List.getElem_cons_zero, List.getElem_cons_succ, List.setIfInBounds_toArray, List.set_cons_zero, List.set_cons_succ]
      refine monoN_stay (i := 4) (v := ?_) rfl (by kernel_rfl) (by kernel_rfl) (by kernel_rfl) (fun _ _ _ h => h) (Or.inl ⟨by rfl, ?_⟩) ?_
      rotate_left 1
      · (intro wL hL; go_simp; try with_reducible rfl)
      try simp only [Act.put, List.getElem_toArray, List.getElem_cons_zero, List.getElem_cons_succ, List.setIfInBounds_toArray, List.set_cons_zero, List.set_cons_succ]
      refine monoN_stay (i := 5) (v := ?_) rfl (by kernel_rfl) (by kernel_rfl) (by kernel_rfl) (fun _ _ _ h => h) (Or.inl ⟨by rfl, ?_⟩) ?_
      rotate_left 1
      · (intro wL hL; go_simp; try with_reducible rfl)
      try simp only [Act.put, List.getElem_toArray, List.getElem_cons_zero, List.getElem_cons_succ, List.setIfInBounds_toArray, List.set_cons_zero, List.set_cons_succ]
      refine monoN_stay (i := 6) (v := ?_) rfl (by kernel_rfl) (by kernel_rfl) (by kernel_rfl) (fun _ _ _ h => h) (Or.inl ⟨by rfl, ?_⟩) ?_
      rotate_left 1
      · (intro wL hL; go_simp; try with_reducible rfl)
      try simp only [Act.put, List.getElem_toArray, List.getElem_cons_zero, List.getElem_cons_succ, List.setIfInBounds_toArray, List.set_cons_zero, List.set_cons_succ]
      refine monoN_stay (i := 7) (v := ?_) rfl (by kernel_rfl) (by kernel_rfl) (by kernel_rfl) (fun _ _ _ h => h) (Or.inl ⟨by rfl, ?_⟩) ?_
      rotate_left 1
      · (intro wL hL; obtain ⟨c0, c1, c2, c3, _, _, _, _⟩ := rowCells (k := k) HR.out BEL.out hL hnT HI.out; have zi : b < wL.heap.size := Nat.lt_of_lt_of_le (Nat.lt_of_lt_of_le hb0 BEL.out.size) hL.size; go_simp; try with_reducible rfl)
      try simp only [Act.put, List.getElem_toArray, List.getElem_cons_zero, List.getElem_cons_succ, List.setIfInBounds_toArray, List.set_cons_zero, List.set_cons_succ]
      refine monoN_stay (i := 8) (v := ?_) rfl (by kernel_rfl) (by kernel_rfl) (by kernel_rfl) (fun _ _ _ h => h) (Or.inl ⟨by rfl, ?_⟩) ?_
      rotate_left 1
      · (intro wL hL; go_simp; try with_reducible rfl)
      try simp only [Act.put, List.getElem_toArray, List.getElem_cons_zero, List.getElem_cons_succ, List.setIfInBounds_toArray, List.set_cons_zero, List.set_cons_succ]
      refine monoN_stay (i := 9) (v := ?_) rfl (by kernel_rfl) (by kernel_rfl) (by kernel_rfl) (fun _ _ _ h => h) (Or.inl ⟨by rfl, ?_⟩) ?_
      rotate_left 1
      · (intro wL hL; have lL := (OA.out.but hL (by show ¬ bm ≤ _; omega)).cell; have zL := (OA.out.but hL (by show ¬ bm ≤ _; omega)).lt; go_simp; try with_reducible rfl)
      try simp only [Act.put, List.getElem_toArray, List.getElem_cons_zero, List.getElem_cons_succ, List.setIfInBounds_toArray, List.set_cons_zero, List.set_cons_succ]
      refine monoN_stay (i := 10) (v := ?_) rfl (by kernel_rfl) (by kernel_rfl) (by kernel_rfl) (fun _ _ _ h => h) (Or.inl ⟨by rfl, ?_⟩) ?_
      rotate_left 1
      · (intro wL hL; go_simp; try with_reducible rfl)
      try simp only [Act.put, List.getElem_toArray, List.getElem_cons_zero, List.getElem_cons_succ, List.setIfInBounds_toArray, List.set_cons_zero, List.set_cons_succ]
      refine monoN_stay (i := 11) (v := ?_) rfl (by kernel_rfl) (by kernel_rfl) (by kernel_rfl) (fun _ _ _ h => h) (Or.inl ⟨by rfl, ?_⟩) ?_
      rotate_left 1
      · (intro wL hL; go_simp; try with_reducible rfl)
      try simp only [Act.put, List.getElem_toArray, List.getElem_cons_zero, List.getElem_cons_succ, List.setIfInBounds_toArray, List.set_cons_zero, List.set_cons_succ]
      refine monoN_stay (i := 12) (v := ?_) rfl (by kernel_rfl) (by kernel_rfl) (by kernel_rfl) (fun _ _ _ h => h) (Or.inl ⟨by rfl, ?_⟩) ?_
      rotate_left 1
      · (intro wL hL; go_simp; try with_reducible rfl)
      try simp only [Act.put, List.getElem_toArray, List.getElem_cons_zero, List.getElem_cons_succ, List.setIfInBounds_toArray, List.set_cons_zero, List.set_cons_succ]
      refine monoN_stay (i := 13) (v := ?_) rfl (by kernel_rfl) (by kernel_rfl) (by kernel_rfl) (fun _ _ _ h => h) (Or.inl ⟨by rfl, ?_⟩) ?_
      rotate_left 1
      · (intro wL hL; obtain ⟨c0, c1, c2, c3, _, _, _, _⟩ := rowCells (k := k) HR.out BEL.out hL hnT HI.out; have zi : b < wL.heap.size := Nat.lt_of_lt_of_le (Nat.lt_of_lt_of_le hb0 BEL.out.size) hL.size; go_simp; try with_reducible rfl)
      try simp only [Act.put, List.getElem_toArray, List.getElem_cons_zero, List.getElem_cons_succ, List.setIfInBounds_toArray, List.set_cons_zero, List.set_cons_succ]
      refine monoN_stay (i := 14) (v := ?_) rfl (by kernel_rfl) (by kernel_rfl) (by kernel_rfl) (fun _ _ _ h => h) (Or.inl ⟨by rfl, ?_⟩) ?_
      rotate_left 1
      · (intro wL hL; go_simp; try with_reducible rfl)
      try simp only [Act.put, List.getElem_toArray, List.getElem_cons_zero, List.getElem_cons_succ, List.setIfInBounds_toArray, List.set_cons_zero, List.set_cons_succ]
      refine monoN_stay (i := 15) (v := ?_) rfl (by kernel_rfl) (by kernel_rfl) (by kernel_rfl) (fun _ _ _ h => h) (Or.inl ⟨by rfl, ?_⟩) ?_
      rotate_left 1
      · (intro wL hL; have lL := (OA.out.but hL (by show ¬ bm ≤ _; omega)).cell; have zL := (OA.out.but hL (by show ¬ bm ≤ _; omega)).lt; go_simp; try with_reducible rfl)
      try simp only [Act.put, List.getElem_toArray, List.getElem_cons_zero, List.getElem_cons_succ, List.setIfInBounds_toArray, List.set_cons_zero, List.set_cons_succ]
      refine monoN_stay (i := 16) (v := ?_) rfl (by kernel_rfl) (by kernel_rfl) (by kernel_rfl) (fun _ _ _ h => h) (Or.inl ⟨by rfl, ?_⟩) ?_
      rotate_left 1
      · (intro wL hL; go_simp; try with_reducible rfl)
      try simp only [Act.put, List.getElem_toArray, List.getElem_cons_zero, List.getElem_cons_succ, List.setIfInBounds_toArray, List.set_cons_zero, List.set_cons_succ]
      refine monoN_stay (i := 17) (v := ?_) rfl (by kernel_rfl) (by kernel_rfl) (by kernel_rfl) (fun _ _ _ h => h) (Or.inl ⟨by rfl, ?_⟩) ?_
      rotate_left 1
      · (intro wL hL; go_simp; try with_reducible rfl)
      try simp only [Act.put, List.getElem_toArray, List.getElem_cons_zero, List.getElem_cons_succ, List.setIfInBounds_toArray, List.set_cons_zero, List.set_cons_succ]
      refine monoN_stay (i := 18) (v := ?_) rfl (by kernel_rfl) (by kernel_rfl) (by kernel_rfl) (fun _ _ _ h => h) (Or.inl ⟨by rfl, ?_⟩) ?_
      rotate_left 1
      · (intro wL hL; go_simp; try with_reducible rfl)
      try simp only [Act.put, List.getElem_toArray, List.getElem_cons_zero, List.getElem_cons_succ, List.setIfInBounds_toArray, List.set_cons_zero, List.set_cons_succ]
      refine monoN_stay (i := 19) (v := ?_) rfl (by kernel_rfl) (by kernel_rfl) (by kernel_rfl) (fun _ _ _ h => h) (Or.inl ⟨by rfl, ?_⟩) ?_
      rotate_left 1
      · (intro wL hL; obtain ⟨c0, c1, c2, c3, _, _, _, _⟩ := rowCells (k := k) HR.out BEL.out hL hnT HI.out; have zi : b < wL.heap.size := Nat.lt_of_lt_of_le (Nat.lt_of_lt_of_le hb0 BEL.out.size) hL.size; go_simp; try with_reducible rfl)
      try simp only [Act.put, List.getElem_toArray, List.getElem_cons_zero, List.getElem_cons_succ, List.setIfInBounds_toArray, List.set_cons_zero, List.set_cons_succ]
      refine monoN_stay (i := 20) (v := ?_) rfl (by kernel_rfl) (by kernel_rfl) (by kernel_rfl) (fun _ _ _ h => h) (Or.inl ⟨by rfl, ?_⟩) ?_
      rotate_left 1
      · (intro wL hL; go_simp; try with_reducible rfl)
      try simp only [Act.put, List.getElem_toArray, List.getElem_cons_zero, List.getElem_cons_succ, List.setIfInBounds_toArray, List.set_cons_zero, List.set_cons_succ]
      refine monoN_r1 (i := 21) (by kernel_rfl) ?_
      refine stepN_new (by rfl) (by rfl) (fun b => .slice (some ⟨b, 0, none⟩) 1 1) #[.string i.id, .int .i64 i.r, .int .i64 i.c, .int .i64 i.st] 74 (by go_simp; try rfl) (fun bn wn hbn hb on => ?_)
      replace OA := Lib.hid (OA.out.later hb)
      replace OX := Lib.hid (OX.out.later hb)
      replace OM := Lib.hid (OM.out.later hb)
      replace OB := Lib.hid (OB.out.later hb)
      replace BEL := Lib.hid (BEL.out.trans (Below.mono hb BEL.out.size))
      replace HO := Lib.hid (ownsRow_below HO.out hb)
      clear hb hbn
      have ON := Lib.hid on
      clear on
      try simp only [Act.put, List.getElem_toArray, List.getElem_cons_zero, List.getElem_cons_succ, List.setIfInBounds_toArray, List.set_cons_zero, List.set_cons_succ]
      refine monoN_r1 (i := 22) (by kernel_rfl) ?_
      refine stepN_append (by rfl) (by rfl) _ _ 34 (by rfl) (bm + 1) 74 i0 _ 4 40 Tryz.underlying34 hi0 hz0 hz1 hz2 rfl (by omega) ((.slice oh k ch)) (k) (gC hc (s.store.take k)) (by rfl) HO.out (⟨bn, 0, none⟩) 1 1 (hc i) (by rfl) (by rfl) (World.news_of_block (cs := #[.string i.id, .int .i64 i.r, .int .i64 i.c, .int .i64 i.st]) ON.out.blk) (hc_one i) (by omega) (by unfold maxLen; omega) (by omega) (by have := OB.out.lt; omega) (by rfl) (fun q hq => by have := (World.ownsRow.lt HO.out q hq.symm).1; show bm ≤ q; omega) (fun g7 cap7 wa how ha => ?_)
      clear ON
      replace OA := Lib.hid (OA.out.apped ha (own_ne HO.out (by omega)))
      replace OX := Lib.hid (OX.out.apped ha (own_ne HO.out (by omega)))
      replace OM := Lib.hid (OM.out.apped ha (own_ne HO.out (by omega)))
      replace OB := Lib.hid (OB.out.apped ha (own_ne HO.out (by omega)))
      replace BEL := Lib.hid (ha.bel (fun k hk => Nat.le_trans (by omega) (World.ownsRow.lt HO.out k hk.symm).1) BEL.out BEL.out.size)
      replace HO := Lib.hid how
      clear how ha
      try simp only [Act.put, List.getElem_toArray, List.getElem_cons_zero, List.getElem_cons_succ, List.setIfInBounds_toArray, List.set_cons_zero, List.set_cons_succ]
      refine monoN_stay (i := 23) (v := ?_) rfl (by kernel_rfl) (by kernel_rfl) (by kernel_rfl) (fun _ _ _ h => h) (Or.inl ⟨by rfl, ?_⟩) ?_
      rotate_left 1
      · (intro wL hL; go_simp; try with_reducible rfl)
      try simp only [Act.put, List.getElem_toArray, List.getElem_cons_zero, List.getElem_cons_succ, List.setIfInBounds_toArray, List.set_cons_zero, List.set_cons_succ]
      refine monoN_r1 (i := 24) (by kernel_rfl) ?_
      refine stepN_store1 (by rfl) (by rfl) (bm) (19) (.slice (some ⟨g7, 0, none⟩) (k + 1) cap7) OB.out (by have lL := OB.out.cell; have fL := OB.out.free; have zL := OB.out.lt; go_simp; try rfl) (by rfl) (Nat.le_refl bm) (fun ws hs ho => ?_)
      replace OA := Lib.hid (OA.out.stored hs (by omega))
      replace OX := Lib.hid (OX.out.stored hs (by omega))
      replace OM := Lib.hid (OM.out.stored hs (by omega))
      replace BEL := Lib.hid (hs.bel (by omega) BEL.out)
      replace HO := Lib.hid (ownsRow_stored HO.out hs (by omega))
      replace OB := Lib.hid ho
      clear hs ho
      have KEY := Lib.hid (show OwnG 74 4 hc _ (bm + 1) (s.store.take (k + 1)) _ from by rw [takeI HI.out]; exact OwnG.push HO.out (by rw [HTK.out]))
      try simp only [Act.put, List.getElem_toArray, List.getElem_cons_zero, List.getElem_cons_succ, List.setIfInBounds_toArray, List.set_cons_zero, List.set_cons_succ]
      refine monoN_done (by kernel_rfl) ?_ _
      go_wp2_with fail
      go_roundw
      case rel => exact ⟨k + 1, _, by omega, by go_num, Lib.hid ⟨OA.out, OX.out, OM.out, OB.out, KEY.out, BEL.out⟩⟩
      case measure => simp [intOf]; omega
    · have e : k = len := by omega
      subst e
      have hr := AS.out.r
      rw [List.take_of_length_le (by rw [HLEN.out]; omega)] at hr
      have HV := hr.val
      rw [HLEN.out] at HV
      obtain ⟨oh, ch, rfl⟩ := HV
      unfold OwnG at hr
      rw [HLEN.out] at hr
      have HRW := Lib.hid hr
      have OX := Lib.hid AS.out.x
      have OM := Lib.hid AS.out.z
      have OB := Lib.hid AS.out.m
      have OA := Lib.hid AS.out.a
      have BEL := Lib.hid AS.out.b
      clear AS hr
      go_upto_region 6 with fail
      clear lA zA
      refine monoN_start (T := fun q => q = w.heap.size + 1 ∨ q = w.heap.size + 2) (D := fun k => k == 6 || k == 7) (by kernel_rfl) (fun wd hbd => ?_)
      replace OX := Lib.hid (OX.out.later hbd)
      replace OM := Lib.hid (OM.out.later hbd)
      replace OA := Lib.hid (OA.out.later hbd)
      replace OB := Lib.hid (OB.out.later hbd)
      replace BEL := Lib.hid (BEL.out.trans (Below.mono hbd BEL.out.size))
      replace HRW := Lib.hid (ownsRow_below HRW.out hbd)
      clear hbd
      refine monoN_stay (i := 0) (v := ?_) rfl (by kernel_rfl) (by kernel_rfl) (by kernel_rfl) (fun _ _ _ h => h) (Or.inl ⟨by rfl, ?_⟩) ?_
      rotate_left 1
      · (intro wL hL; go_simp; try with_reducible rfl)
      try simp only [Act.put, List.getElem_toArray, List.getElem_cons_zero, List.getElem_cons_succ, List.setIfInBounds_toArray, List.set_cons_zero, List.set_cons_succ]
      refine monoN_stay (i := 1) (v := ?_) rfl (by kernel_rfl) (by kernel_rfl) (by kernel_rfl) (fun _ _ _ h => h) (Or.inl ⟨by rfl, ?_⟩) ?_
      rotate_left 1
      · (intro wL hL; go_simp; try with_reducible rfl)
      try simp only [Act.put, List.getElem_toArray, List.getElem_cons_zero, List.getElem_cons_succ, List.setIfInBounds_toArray, List.set_cons_zero, List.set_cons_succ]
      refine monoN_stay (i := 2) (v := ?_) rfl (by kernel_rfl) (by kernel_rfl) (by kernel_rfl) (fun _ _ _ h => h) (Or.inl ⟨by rfl, ?_⟩) ?_
      rotate_left 1
      · (intro wL hL; go_simp; try with_reducible rfl)
      try simp only [Act.put, List.getElem_toArray, List.getElem_cons_zero, List.getElem_cons_succ, List.setIfInBounds_toArray, List.set_cons_zero, List.set_cons_succ]
      refine monoN_stay (i := 3) (v := ?_) rfl (by kernel_rfl) (by kernel_rfl) (by kernel_rfl) (fun _ _ _ h => h) (Or.inl ⟨by rfl, ?_⟩) ?_
      rotate_left 1
      · (intro wL hL; have lL := (OA.out.but hL (by show ¬ (_ ∨ _); omega)).cell; have zL := (OA.out.but hL (by show ¬ (_ ∨ _); omega)).lt; go_simp; try with_reducible rfl)
      try simp only [Act.put, List.getElem_toArray, List.getElem_cons_zero, List.getElem_cons_succ, List.setIfInBounds_toArray, List.set_cons_zero, List.set_cons_succ]
      refine monoN_stay (i := 4) (v := ?_) rfl (by kernel_rfl) (by kernel_rfl) (by kernel_rfl) (fun _ _ _ h => h) (Or.inl ⟨by rfl, ?_⟩) ?_
      rotate_left 1
      · (intro wL hL; go_simp; try with_reducible rfl)
      try simp only [Act.put, List.getElem_toArray, List.getElem_cons_zero, List.getElem_cons_succ, List.setIfInBounds_toArray, List.set_cons_zero, List.set_cons_succ]
      refine monoN_stay (i := 5) (v := .agg (mgA (askO s wth sid) (.slice of_ s.f.kids.length cf) (.slice ok_ s.k.l.length ck) (.slice oh k ch) nilV)) rfl (by kernel_rfl) (by kernel_rfl) (by kernel_rfl) (fun _ _ _ h => h) (Or.inl ⟨by rfl, fun wL hL => exec_load_mid 47 _ rfl (bm) 0 (by rfl) ((mgA (askO s wth sid) (.slice of_ s.f.kids.length cf) (.slice ok_ s.k.l.length ck) (.slice oh k ch) nilV) : Array Value).toList _ ((OB.out.but hL (by show ¬ (_ ∨ _); omega)).part 0 _ (by rfl)) Tryz.underlying47 (by rfl) (by kernel_rfl)⟩) ?_
      try simp only [Act.put, List.getElem_toArray, List.getElem_cons_zero, List.getElem_cons_succ, List.setIfInBounds_toArray, List.set_cons_zero, List.set_cons_succ]
      refine monoN_r1 (i := 6) (by kernel_rfl) ?_
      refine stepN_store (by rfl) (by rfl) 61 _ _ (by rfl) (w.heap.size + 1) (0) (ssA (askX s wth sid) nilV nilV nilV) (by rfl) (by rfl) OX.out (by simp) (by kernel_rfl) (by simp [Value.oneCell']) (by rfl) (Or.inl rfl) (fun ws hs ho => ?_)
      replace OM := Lib.hid (OM.out.stored hs (by omega))
      replace OA := Lib.hid (OA.out.stored hs (by omega))
      replace OB := Lib.hid (OB.out.stored hs (by omega))
      replace BEL := Lib.hid (hs.bel (by omega) BEL.out)
      replace HRW := Lib.hid (ownsRow_stored HRW.out hs (by omega))
      replace OX := Lib.hid ho
      clear hs ho
      replace OX := Lib.hid (OX.out.whole (by rfl))
      try simp only [Act.put, List.getElem_toArray, List.getElem_cons_zero, List.getElem_cons_succ, List.setIfInBounds_toArray, List.set_cons_zero, List.set_cons_succ]
      refine monoN_r1 (i := 7) (by kernel_rfl) ?_
      refine stepN_store (by rfl) (by rfl) 47 _ _ (by rfl) (w.heap.size + 2) (0) (mgA (askO s wth sid) (.slice of_ s.f.kids.length cf) (.slice ok_ s.k.l.length ck) (.slice oh k ch) nilV) (by rfl) (by rfl) OM.out (by simp) (by kernel_rfl) (by simp [Value.oneCell']) (by rfl) (Or.inr rfl) (fun ws hs ho => ?_)
      replace OX := Lib.hid (OX.out.stored hs (by omega))
      replace OA := Lib.hid (OA.out.stored hs (by omega))
      replace OB := Lib.hid (OB.out.stored hs (by omega))
      replace BEL := Lib.hid (hs.bel (by omega) BEL.out)
      replace HRW := Lib.hid (ownsRow_stored HRW.out hs (by omega))
      replace OM := Lib.hid ho
      clear hs ho
      replace OM := Lib.hid (OM.out.whole (by rfl))
      try simp only [Act.put, List.getElem_toArray, List.getElem_cons_zero, List.getElem_cons_succ, List.setIfInBounds_toArray, List.set_cons_zero, List.set_cons_succ]
      refine monoN_done (by kernel_rfl) ?_ _
      go_wp2_with fail
      exact ret_cell2 (by rfl) (by rfl) (by rfl) (l := (ssA (askX s wth sid) nilV nilV nilV).toList) (l' := (mgA (askO s wth sid) (.slice of_ s.f.kids.length cf) (.slice ok_ s.k.l.length ck) (.slice oh k ch) nilV).toList) OX.out.range Tryz.underlying61 (by rfl) (by kernel_rfl) OM.out.range Tryz.underlying47 (by rfl) (by kernel_rfl) rfl ⟨_, rfl, (OwnG.row (f := hc) (l := s.store) (by unfold OwnG; rw [HLEN.out]; exact HRW.out) (fun _ => rfl)).mono (fun b hq => by have hq' : b < w.heap.size := hq; show b < _; omega), BEL.out⟩
end Go.Proofs.YthbjgfennclidaaGreat
/- Messages out of plain data. Walked. -/
namespace Go.Proofs.YthbjgfennclidaaGreat
set_option linter.unusedVariables false
set_option linter.unusedSimpArgs false
set_option maxRecDepth 100000
open Go Go.RowKit
def shortI (m : Mg) : Int := if 60 < m.has.length ∨ 60 < m.l.length then 0 else smallI m.f * knownI m.k
set_option maxRecDepth 100000 in
set_option maxHeartbeats 4000000 in
theorem short_calls (m : Mg) (fv kv hv lv : Value) (w : World) (hS : NoW w m fv kv hv lv) :
    Calls Tryz.prog 10 #[.agg (noA m fv kv hv lv)] w fun e w' => e = .returned (.int .i64 (shortI m)) ∧ Below w.heap.size w w' := by
  obtain ⟨oh, ch, rfl⟩ := hS.lh.val
  obtain ⟨ol, cl, rfl⟩ := hS.ll.val
  have OA := Lib.hid (Has.new w (noA m fv kv (.slice oh m.has.length ch) (.slice ol m.l.length cl)) 37)
  have BEL := Lib.hid ((Below.refl w.heap.size w).alloc (Nat.le_refl _) (.cells (noA m fv kv (.slice oh m.has.length ch) (.slice ol m.l.length cl)) 37))
  have HS := Lib.hid (hS.later ((Below.refl w.heap.size w).alloc (Nat.le_refl _) (.cells (noA m fv kv (.slice oh m.has.length ch) (.slice ol m.l.length cl)) 37)))
  have C1 := fun w' h => Lib.hid (small_calls m.f fv w' h)
  have C2 := fun w' h => Lib.hid (known_calls m.k kv w' h)
  clear hS
  have l0 := OA.out.cell
  have z0 := OA.out.lt
  unfold shortI smallI
  by_cases hb : 60 < m.has.length ∨ 60 < m.l.length
  · rw [if_pos hb]
    have hways : decide ((60 : Int) < (m.has.length : Int)) = true ∨ (decide ((60 : Int) < (m.has.length : Int)) = false ∧ decide ((60 : Int) < (m.l.length : Int)) = true) := by
      by_cases h : 60 < m.has.length
      · exact .inl (decide_eq_true (by omega))
      · refine .inr ⟨decide_eq_false (by omega), decide_eq_true ?_⟩
        rcases hb with h' | h'
        · exact absurd h' h
        · omega
    clear hb C1 C2
    rcases hways with g1 | ⟨g1, g2⟩
    all_goals
      go_enter Tryz.func10, Tryz.ntmps10
      go_wp2_with fail
      go_ret
      exact ⟨rfl, BEL.out⟩
  · rw [if_neg hb]
    have g1 : decide ((60 : Int) < (m.has.length : Int)) = false := decide_eq_false (by omega)
    have g2 : decide ((60 : Int) < (m.l.length : Int)) = false := decide_eq_false (by omega)
    clear hb
    have hv : Hid (((if m.f.size ≤ 60 then (1 : Int) else 0) = 0 ∨ (if m.f.size ≤ 60 then (1 : Int) else 0) = 1) ∧ (knownI m.k = 0 ∨ knownI m.k = 1)) := Lib.hid ⟨by split <;> simp, by unfold knownI; split <;> simp⟩
    generalize (if m.f.size ≤ 60 then (1 : Int) else 0) = a at *
    generalize knownI m.k = b at *
    have hv2 := hv.out
    clear hv
    rcases hv2 with ⟨rfl | rfl, rfl | rfl⟩
    all_goals
      go_enter Tryz.func10, Tryz.ntmps10
      go_upto_region 3 with fail
      have OA2 := Lib.hid OA.out.drew
      have HS2 := Lib.hid (HS.out.later (Below.refl _ _).drew)
      have BE2 := Lib.hid BEL.out.drew
      clear l0 z0
      go_region_held3 (fun w' => ∀ o, w'.cell? ⟨w.heap.size, o, none⟩ = (noA m fv kv (.slice oh m.has.length ch) (.slice ol m.l.length cl))[o]?) (first | with_reducible exact OA2.out.cell) (first
        | (go_simp; go_at_call 38; refine (C1 _ HS2.out.lf).out.mono ?_; rintro e w3 ⟨rfl, hb⟩; replace OA2 := Lib.hid (OA2.out.below hb OA2.out.lt); replace HS2 := Lib.hid (HS2.out.later hb); replace BE2 := Lib.hid (BE2.out.trans (hb.mono BE2.out.size)); clear hb)
        | (go_simp; go_at_call 25; refine (C2 _ HS2.out.lk).out.mono ?_; rintro e w4 ⟨rfl, hb⟩; replace OA2 := Lib.hid (OA2.out.below hb OA2.out.lt); replace HS2 := Lib.hid (HS2.out.later hb); replace BE2 := Lib.hid (BE2.out.trans (hb.mono BE2.out.size)); clear hb)
        | fail)
      go_wp2_with fail
      go_ret
      exact ⟨rfl, BE2.out⟩
theorem lnc_cells {w : World} {e : En} {b o : Nat} (h : ∀ j u, (lnc e)[j]? = some u → w.cell? ⟨b, o + j, none⟩ = some u) :
    w.cell? ⟨b, o, none⟩ = some (.string e.x.id) ∧ w.cell? ⟨b, o + 1, none⟩ = some (.int .i64 e.x.r) ∧ w.cell? ⟨b, o + 2, none⟩ = some (.int .i64 e.x.c) ∧ w.cell? ⟨b, o + 3, none⟩ = some (.int .i64 e.x.st) ∧ w.cell? ⟨b, o + 4, none⟩ = some (.string e.x.kd) ∧ w.cell? ⟨b, o + 5, none⟩ = some (.int .i64 e.x.num) ∧ w.cell? ⟨b, o + 6, none⟩ = some (.float .f64 e.x.x) ∧ w.cell? ⟨b, o + 7, none⟩ = some (.float .f64 e.x.y) ∧ w.cell? ⟨b, o + 8, none⟩ = some (.bool e.x.d) ∧ w.cell? ⟨b, o + 9, none⟩ = some (.bool e.goes) ∧ w.cell? ⟨b, o + 10, none⟩ = some (.int .i64 e.nr) ∧ w.cell? ⟨b, o + 11, none⟩ = some (.int .i64 e.nc) :=
  ⟨h 0 _ rfl, h 1 _ rfl, h 2 _ rfl, h 3 _ rfl, h 4 _ rfl, h 5 _ rfl, h 6 _ rfl, h 7 _ rfl, h 8 _ rfl, h 9 _ rfl, h 10 _ rfl, h 11 _ rfl⟩
structure EsS (w : World) (l : List En) (v : Value) (wr : World) : Prop where
  r : OwnG 70 11 ec wr w.heap.size l v
  b : Below w.heap.size w wr
theorem EsS.later {w wr w2 : World} {l : List En} {v : Value} (h : EsS w l v wr) (hb : Below wr.heap.size wr w2) : EsS w l v w2 := ⟨h.r.later hb, h.b.trans (hb.mono h.b.size)⟩
def EsRel (w : World) (l : List En) (len : Nat) (v iv : Value) (wr : World) : Prop := ∃ k : Nat, k ≤ len ∧ iv = .int .i64 k ∧ Hid (EsS w (l.take k) v wr)
set_option maxRecDepth 100000 in
set_option maxHeartbeats 8000000 in
theorem entries_calls (l : List En) (v : Value) (w : World) (hR : GRow 12 lnc w l v) (hl : l.length ≤ 10000) :
    Calls Tryz.prog 40 #[v] w fun e w' => ∃ v', e = .returned v' ∧ OwnG 70 11 ec w' w.heap.size l v' ∧ Below w.heap.size w w' := by
  obtain ⟨oa, cap, b, o, rfl, hr⟩ := hR
  have HR := Lib.hid hr
  have hcap := hr.len
  have hmax := hr.max
  unfold maxLen at hmax
  clear hr
  generalize hn : l.length = len at *
  have HN := Lib.hid hn
  clear hn
  have AS : Hid (EsS w (l.take 0) nilV w) := Lib.hid ⟨OwnG.nil, Below.refl _ _⟩
  go_enter Tryz.func40, Tryz.ntmps40
  go_wp2_with fail
  go_loopw [3, 4] (fun v3 iv wr => EsRel w l len v3 iv wr) (fun _ iv _ => len - (intOf iv).toNat)
  case atStart => exact ⟨0, Nat.zero_le _, rfl, AS⟩
  case round =>
    clear AS
    obtain ⟨k, hk, rfl, AS⟩ := hrel
    by_cases hlt : k < len
    · obtain ⟨o3, c3, rfl⟩ := AS.out.r.val
      obtain ⟨x, hx⟩ : ∃ x, l[k]? = some x := ⟨_, List.getElem?_eq_getElem (by rw [HN.out]; exact hlt)⟩
      obtain ⟨rfl, hS⟩ := HR.out.at0 (by rw [HN.out]; omega)
      have HX := Lib.hid hx
      have hnk : (l.take k).length ≤ 10000 := by rw [List.length_take, HN.out]; omega
      have HNK := Lib.hid hnk
      clear hnk
      generalize hgk : (l.take k).length = nk at *
      have HGK := Lib.hid hgk
      clear hgk
      have hnb : ¬ ((Value.slice o3 nk c3).ownBlock = some b) := fun e => by have := (World.ownsRow.lt AS.out.r b e).1; omega
      have HCC := Lib.hid (fun w2 (hb : But (fun q => (Value.slice o3 nk c3).ownBlock = some q) w w2) => lnc_cells (w := w2) (fun j u hu => (hb.cell (b := b) (o := o + k * 12 + j) hS hnb).trans (HR.out.cell k x hx j u hu)))
      have CIT := fun w2 => Lib.hid (item_calls x.x.id x.x.r x.x.c x.x.st x.x.kd x.x.num x.x.x x.x.y x.x.d w2)
      have k0 : (0 : Int) ≤ (k : Int) := by omega
      have k1 : (k : Int) < (len : Int) := by omega
      clear hx hS hnb
      go_upto_region 5 with fail
      have ES := Lib.hid AS.out
      clear AS
      refine monoN_start (T := fun q => (Value.slice o3 nk c3).ownBlock = some q) (D := fun k => k == 25) (by kernel_rfl) (fun wd hbd => ?_)
      replace ES := Lib.hid (ES.out.later hbd)
      clear hbd
      refine monoN_stay (i := 0) (v := ?_) rfl (by kernel_rfl) (by kernel_rfl) (by kernel_rfl) (fun _ _ _ h => h) (Or.inl ⟨by rfl, ?_⟩) ?_
      rotate_left 1
      · (intro wL hL; go_simp; try with_reducible rfl)
      try simp only [Act.put, List.getElem_toArray, List.getElem_cons_zero, List.getElem_cons_succ, List.setIfInBounds_toArray, List.set_cons_zero, List.set_cons_succ]
      refine monoN_stay (i := 1) (v := ?_) rfl (by kernel_rfl) (by kernel_rfl) (by kernel_rfl) (fun _ _ _ h => h) (Or.inl ⟨by rfl, ?_⟩) ?_
      rotate_left 1
      · (intro wL hL; go_simp; try with_reducible rfl)
      try simp only [Act.put, List.getElem_toArray, List.getElem_cons_zero, List.getElem_cons_succ, List.setIfInBounds_toArray, List.set_cons_zero, List.set_cons_succ]
      refine monoN_stay (i := 2) (v := ?_) rfl (by kernel_rfl) (by kernel_rfl) (by kernel_rfl) (fun _ _ _ h => h) (Or.inl ⟨by rfl, ?_⟩) ?_
      rotate_left 1
      · (intro wL hL; go_simp; try with_reducible rfl)
      try simp only [Act.put, List.getElem_toArray, List.getElem_cons_zero, List.getElem_cons_succ, List.setIfInBounds_toArray, List.set_cons_zero, List.set_cons_succ]
      refine monoN_stay (i := 3) (v := ?_) rfl (by kernel_rfl) (by kernel_rfl) (by kernel_rfl) (fun _ _ _ h => h) (Or.inl ⟨by rfl, ?_⟩) ?_
      rotate_left 1
      · (intro wL hL; go_simp; try with_reducible rfl)
      try simp only [Act.put, List.getElem_toArray, List.getElem_cons_zero, List.getElem_cons_succ, List.setIfInBounds_toArray, List.set_cons_zero, List.set_cons_succ]
      refine monoN_stay (i := 4) (v := ?_) rfl (by kernel_rfl) (by kernel_rfl) (by kernel_rfl) (fun _ _ _ h => h) (Or.inl ⟨by rfl, ?_⟩) ?_
      rotate_left 1
      · (intro wL hL; go_simp; try with_reducible rfl)
      try simp only [Act.put, List.getElem_toArray, List.getElem_cons_zero, List.getElem_cons_succ, List.setIfInBounds_toArray, List.set_cons_zero, List.set_cons_succ]
      refine monoN_stay (i := 5) (v := ?_) rfl (by kernel_rfl) (by kernel_rfl) (by kernel_rfl) (fun _ _ _ h => h) (Or.inl ⟨by rfl, ?_⟩) ?_
      rotate_left 1
      · (intro wL hL; obtain ⟨c0, c1, c2, c3_, c4, c5, c6, c7, c8, c9, c10, c11⟩ := HCC.out _ ((But.of (T := fun q => (Value.slice o3 nk c3).ownBlock = some q) ES.out.b).trans hL); have zL := Nat.lt_of_lt_of_le (HR.out.at0 (by rw [HN.out]; omega)).2 (Nat.le_trans ES.out.b.size hL.size); go_simp; try with_reducible rfl)
      try simp only [Act.put, List.getElem_toArray, List.getElem_cons_zero, List.getElem_cons_succ, List.setIfInBounds_toArray, List.set_cons_zero, List.set_cons_succ]
      refine monoN_stay (i := 7) (v := ?_) rfl (by kernel_rfl) (by kernel_rfl) (by kernel_rfl) (fun _ _ _ h => h) (Or.inl ⟨by rfl, ?_⟩) ?_
      rotate_left 1
      · (intro wL hL; go_simp; try with_reducible rfl)
      try simp only [Act.put, List.getElem_toArray, List.getElem_cons_zero, List.getElem_cons_succ, List.setIfInBounds_toArray, List.set_cons_zero, List.set_cons_succ]
      refine monoN_stay (i := 8) (v := ?_) rfl (by kernel_rfl) (by kernel_rfl) (by kernel_rfl) (fun _ _ _ h => h) (Or.inl ⟨by rfl, ?_⟩) ?_
      rotate_left 1
      · (intro wL hL; go_simp; try with_reducible rfl)
      try simp only [Act.put, List.getElem_toArray, List.getElem_cons_zero, List.getElem_cons_succ, List.setIfInBounds_toArray, List.set_cons_zero, List.set_cons_succ]
      refine monoN_stay (i := 9) (v := ?_) rfl (by kernel_rfl) (by kernel_rfl) (by kernel_rfl) (fun _ _ _ h => h) (Or.inl ⟨by rfl, ?_⟩) ?_
      rotate_left 1
      · (intro wL hL; go_simp; try with_reducible rfl)
      try simp only [Act.put, List.getElem_toArray, List.getElem_cons_zero, List.getElem_cons_succ, List.setIfInBounds_toArray, List.set_cons_zero, List.set_cons_succ]
      refine monoN_stay (i := 10) (v := ?_) rfl (by kernel_rfl) (by kernel_rfl) (by kernel_rfl) (fun _ _ _ h => h) (Or.inl ⟨by rfl, ?_⟩) ?_
      rotate_left 1
      · (intro wL hL; go_simp; try with_reducible rfl)
      try simp only [Act.put, List.getElem_toArray, List.getElem_cons_zero, List.getElem_cons_succ, List.setIfInBounds_toArray, List.set_cons_zero, List.set_cons_succ]
      refine monoN_stay (i := 11) (v := ?_) rfl (by kernel_rfl) (by kernel_rfl) (by kernel_rfl) (fun _ _ _ h => h) (Or.inl ⟨by rfl, ?_⟩) ?_
      rotate_left 1
      · (intro wL hL; obtain ⟨c0, c1, c2, c3_, c4, c5, c6, c7, c8, c9, c10, c11⟩ := HCC.out _ ((But.of (T := fun q => (Value.slice o3 nk c3).ownBlock = some q) ES.out.b).trans hL); have zL := Nat.lt_of_lt_of_le (HR.out.at0 (by rw [HN.out]; omega)).2 (Nat.le_trans ES.out.b.size hL.size); go_simp; try with_reducible rfl)
      try simp only [Act.put, List.getElem_toArray, List.getElem_cons_zero, List.getElem_cons_succ, List.setIfInBounds_toArray, List.set_cons_zero, List.set_cons_succ]
      refine monoN_stay (i := 12) (v := ?_) rfl (by kernel_rfl) (by kernel_rfl) (by kernel_rfl) (fun _ _ _ h => h) (Or.inl ⟨by rfl, ?_⟩) ?_
      rotate_left 1
      · (intro wL hL; go_simp; try with_reducible rfl)
      try simp only [Act.put, List.getElem_toArray, List.getElem_cons_zero, List.getElem_cons_succ, List.setIfInBounds_toArray, List.set_cons_zero, List.set_cons_succ]
      refine monoN_stay (i := 13) (v := ?_) rfl (by kernel_rfl) (by kernel_rfl) (by kernel_rfl) (fun _ _ _ h => h) (Or.inl ⟨by rfl, ?_⟩) ?_
      rotate_left 1
      · (intro wL hL; go_simp; try with_reducible rfl)
      try simp only [Act.put, List.getElem_toArray, List.getElem_cons_zero, List.getElem_cons_succ, List.setIfInBounds_toArray, List.set_cons_zero, List.set_cons_succ]
      refine monoN_stay (i := 14) (v := ?_) rfl (by kernel_rfl) (by kernel_rfl) (by kernel_rfl) (fun _ _ _ h => h) (Or.inl ⟨by rfl, ?_⟩) ?_
      rotate_left 1
      · (intro wL hL; go_simp; try with_reducible rfl)
      try simp only [Act.put, List.getElem_toArray, List.getElem_cons_zero, List.getElem_cons_succ, List.setIfInBounds_toArray, List.set_cons_zero, List.set_cons_succ]
      refine monoN_stay (i := 15) (v := ?_) rfl (by kernel_rfl) (by kernel_rfl) (by kernel_rfl) (fun _ _ _ h => h) (Or.inl ⟨by rfl, ?_⟩) ?_
      rotate_left 1
      · (intro wL hL; go_simp; try with_reducible rfl)
      try simp only [Act.put, List.getElem_toArray, List.getElem_cons_zero, List.getElem_cons_succ, List.setIfInBounds_toArray, List.set_cons_zero, List.set_cons_succ]
      refine monoN_stay (i := 16) (v := ?_) rfl (by kernel_rfl) (by kernel_rfl) (by kernel_rfl) (fun _ _ _ h => h) (Or.inl ⟨by rfl, ?_⟩) ?_
      rotate_left 1
      · (intro wL hL; obtain ⟨c0, c1, c2, c3_, c4, c5, c6, c7, c8, c9, c10, c11⟩ := HCC.out _ ((But.of (T := fun q => (Value.slice o3 nk c3).ownBlock = some q) ES.out.b).trans hL); have zL := Nat.lt_of_lt_of_le (HR.out.at0 (by rw [HN.out]; omega)).2 (Nat.le_trans ES.out.b.size hL.size); go_simp; try with_reducible rfl)
      try simp only [Act.put, List.getElem_toArray, List.getElem_cons_zero, List.getElem_cons_succ, List.setIfInBounds_toArray, List.set_cons_zero, List.set_cons_succ]
      refine monoN_stay (i := 17) (v := ?_) rfl (by kernel_rfl) (by kernel_rfl) (by kernel_rfl) (fun _ _ _ h => h) (Or.inl ⟨by rfl, ?_⟩) ?_
      rotate_left 1
      · (intro wL hL; go_simp; try with_reducible rfl)
      try simp only [Act.put, List.getElem_toArray, List.getElem_cons_zero, List.getElem_cons_succ, List.setIfInBounds_toArray, List.set_cons_zero, List.set_cons_succ]
      refine monoN_stay (i := 18) (v := ?_) rfl (by kernel_rfl) (by kernel_rfl) (by kernel_rfl) (fun _ _ _ h => h) (Or.inl ⟨by rfl, ?_⟩) ?_
      rotate_left 1
      · (intro wL hL; go_simp; try with_reducible rfl)
      try simp only [Act.put, List.getElem_toArray, List.getElem_cons_zero, List.getElem_cons_succ, List.setIfInBounds_toArray, List.set_cons_zero, List.set_cons_succ]
      refine monoN_stay (i := 19) (v := ?_) rfl (by kernel_rfl) (by kernel_rfl) (by kernel_rfl) (fun _ _ _ h => h) (Or.inl ⟨by rfl, ?_⟩) ?_
      rotate_left 1
      · (intro wL hL; go_simp; try with_reducible rfl)
      try simp only [Act.put, List.getElem_toArray, List.getElem_cons_zero, List.getElem_cons_succ, List.setIfInBounds_toArray, List.set_cons_zero, List.set_cons_succ]
      refine monoN_stay (i := 20) (v := ?_) rfl (by kernel_rfl) (by kernel_rfl) (by kernel_rfl) (fun _ _ _ h => h) (Or.inl ⟨by rfl, ?_⟩) ?_
      rotate_left 1
      · (intro wL hL; go_simp; try with_reducible rfl)
      try simp only [Act.put, List.getElem_toArray, List.getElem_cons_zero, List.getElem_cons_succ, List.setIfInBounds_toArray, List.set_cons_zero, List.set_cons_succ]
      refine monoN_stay (i := 21) (v := ?_) rfl (by kernel_rfl) (by kernel_rfl) (by kernel_rfl) (fun _ _ _ h => h) (Or.inl ⟨by rfl, ?_⟩) ?_
      rotate_left 1
      · (intro wL hL; obtain ⟨c0, c1, c2, c3_, c4, c5, c6, c7, c8, c9, c10, c11⟩ := HCC.out _ ((But.of (T := fun q => (Value.slice o3 nk c3).ownBlock = some q) ES.out.b).trans hL); have zL := Nat.lt_of_lt_of_le (HR.out.at0 (by rw [HN.out]; omega)).2 (Nat.le_trans ES.out.b.size hL.size); go_simp; try with_reducible rfl)
      try simp only [Act.put, List.getElem_toArray, List.getElem_cons_zero, List.getElem_cons_succ, List.setIfInBounds_toArray, List.set_cons_zero, List.set_cons_succ]
      refine monoN_stay (i := 22) (v := ?_) rfl (by kernel_rfl) (by kernel_rfl) (by kernel_rfl) (fun _ _ _ h => h) (Or.inl ⟨by rfl, ?_⟩) ?_
      rotate_left 1
      · (intro wL hL; go_simp; try with_reducible rfl)
      try simp only [Act.put, List.getElem_toArray, List.getElem_cons_zero, List.getElem_cons_succ, List.setIfInBounds_toArray, List.set_cons_zero, List.set_cons_succ]
      refine monoN_r1 (i := 6) (by kernel_rfl) ?_
      refine stepN_call (by rfl) (by rfl) (fun K hK => ?_)
      try simp only [List.getElem_toArray, List.getElem_cons_zero, List.getElem_cons_succ]
      (go_simp; go_at_call 91; refine (CIT _).out.mono ?_; rintro e wc ⟨rfl, hb⟩)
      try go_wp2_with fail
      refine hK.out _ _ (fun _ => hb) (But.of hb) ?_
      clear hK K
      replace ES := Lib.hid (ES.out.later hb)
      clear hb
      try simp only [Act.put, List.getElem_toArray, List.getElem_cons_zero, List.getElem_cons_succ, List.setIfInBounds_toArray, List.set_cons_zero, List.set_cons_succ]
      refine monoN_stay (i := 23) (v := ?_) rfl (by kernel_rfl) (by kernel_rfl) (by kernel_rfl) (fun _ _ _ h => h) (Or.inl ⟨by rfl, ?_⟩) ?_
      rotate_left 1
      · (intro wL hL; go_simp; try with_reducible rfl)
      try simp only [Act.put, List.getElem_toArray, List.getElem_cons_zero, List.getElem_cons_succ, List.setIfInBounds_toArray, List.set_cons_zero, List.set_cons_succ]
      refine monoN_r1 (i := 24) (by kernel_rfl) ?_
      refine stepN_ok (v := .slice (some ⟨wc.heap.size, 0, none⟩) 1 1) (w1 := wc.alloc (.cells (eA x) 70)) (by rfl) (by rfl) (by go_simp; try rfl) (fun _ => (Below.refl _ _).alloc (Nat.le_refl _) _) (But.of ((Below.refl _ _).alloc (Nat.le_refl _) _)) ?_
      try simp only [Act.put, List.getElem_toArray, List.getElem_cons_zero, List.getElem_cons_succ, List.setIfInBounds_toArray, List.set_cons_zero, List.set_cons_succ]
      refine monoN_r1 (i := 25) (by kernel_rfl) ?_
      have hown : OwnG 70 11 ec wc w.heap.size (l.take k) (.slice o3 nk c3) := ES.out.r
      obtain ⟨g9, c9, w9, hr9, ho9, hg9, _⟩ := run_push_en2 _ x hown (by rw [HGK.out]; have := HNK.out; omega) ES.out.b.size
      rw [HGK.out] at hr9 ho9
      refine stepN_ok (by rfl) (by rfl) (exec_append _ _ _ _ (by rfl) _ _ (by rfl) (by rfl) hr9) (fun h => by cases h) ((AppR.of hg9).but.mono' (fun k hk => hk.symm)) ?_
      have h1 : Below wc.heap.size wc (wc.alloc (.cells (eA x) 70)) := (Below.refl _ _).alloc (Nat.le_refl _) _
      have E9 := Lib.hid (EsS.mk ho9 (below_pushG (hown.later h1) (ES.out.b.trans (Below.mono h1 ES.out.b.size)) (Nat.le_refl _) hg9 (Nat.le_trans ES.out.b.size h1.size)))
      clear hr9 ho9 hg9 hown h1 ES
      try simp only [Act.put, List.getElem_toArray, List.getElem_cons_zero, List.getElem_cons_succ, List.setIfInBounds_toArray, List.set_cons_zero, List.set_cons_succ]
      refine monoN_stay (i := 26) (v := ?_) rfl (by kernel_rfl) (by kernel_rfl) (by kernel_rfl) (fun _ _ _ h => h) (Or.inl ⟨by rfl, ?_⟩) ?_
      rotate_left 1
      · (intro wL hL; go_simp; try with_reducible rfl)
      try simp only [Act.put, List.getElem_toArray, List.getElem_cons_zero, List.getElem_cons_succ, List.setIfInBounds_toArray, List.set_cons_zero, List.set_cons_succ]
      refine monoN_done (by kernel_rfl) ?_ _
      go_wp2_with fail
      go_roundw
      case rel => exact ⟨k + 1, by omega, by go_num, Lib.hid (by rw [takeT HX.out]; exact E9.out)⟩
      case measure => simp [intOf]; omega
    · have e : k = len := by omega
      subst e
      have hlr := AS.out.r
      rw [List.take_of_length_le (by rw [HN.out]; exact Nat.le_refl _)] at hlr
      go_wp2_with fail
      go_ret
      exact ⟨_, rfl, hlr, AS.out.b⟩
set_option maxRecDepth 100000 in
set_option maxHeartbeats 8000000 in
theorem lawMsg_calls (m : Mg) (fv kv hv lv : Value) (w : World) (hM : NoW w m fv kv hv lv) (hf : m.f.size ≤ 60) (hl : m.l.length ≤ 10000) :
    Calls Tryz.prog 11 #[.agg (noA m fv kv hv lv)] w fun e w' => ∃ fv' lv', e = .returned (.agg (mgA m fv' kv hv lv')) ∧ MgW w' m fv' kv hv lv' ∧ Below w.heap.size w w' := by
  have HM := Lib.hid hM
  have CP := fun w' h => Lib.hid (conv_calls m.f fv w' h hf)
  have CE := fun w' h => Lib.hid (entries_calls m.l lv w' h hl)
  obtain ⟨ok_, ck, rfl⟩ := hM.lk.val
  obtain ⟨oh, ch, rfl⟩ := hM.lh.val
  clear hM hf hl
  have OA := Lib.hid ((Own.new w (noA m fv (.slice ok_ m.k.l.length ck) (.slice oh m.has.length ch) lv) 37).alloc (.cells mgZ 47))
  have OM := Lib.hid (Own.newAt (w.alloc (.cells (noA m fv (.slice ok_ m.k.l.length ck) (.slice oh m.has.length ch) lv) 37)) mgZ 47 (b := w.heap.size + 1) (by simp))
  have BEL := Lib.hid (((Below.refl w.heap.size w).alloc (Nat.le_refl _) (.cells (noA m fv (.slice ok_ m.k.l.length ck) (.slice oh m.has.length ch) lv) 37)).alloc (by simp) (.cells mgZ 47))
  go_enter Tryz.func11, Tryz.ntmps11
  go_upto_region 1 with fail
  revert OA OM BEL
  generalize World.alloc (World.alloc _ _) _ = W1
  intro OA OM BEL
  try simp only [Act.put]
  have zA := OA.out.lt
  have zM := OM.out.lt
  refine monoN_start (T := fun k => k = w.heap.size + 1) (D := fun k => k == 25) (by kernel_rfl) (fun wd hbd => ?_)
  replace OA := Lib.hid (OA.out.later hbd)
  replace OM := Lib.hid (OM.out.later hbd)
  replace BEL := Lib.hid (BEL.out.trans (Below.mono hbd BEL.out.size))
  clear hbd
  refine monoN_stay (i := 0) (v := ?_) rfl (by kernel_rfl) (by kernel_rfl) (by kernel_rfl) (fun _ _ _ h => h) (Or.inl ⟨by rfl, ?_⟩) ?_
  rotate_left 1
  · (intro wL hL; go_simp; try with_reducible rfl)
  try simp only [Act.put, List.getElem_toArray, List.getElem_cons_zero, List.getElem_cons_succ, List.setIfInBounds_toArray, List.set_cons_zero, List.set_cons_succ]
  refine monoN_stay (i := 1) (v := ?_) rfl (by kernel_rfl) (by kernel_rfl) (by kernel_rfl) (fun _ _ _ h => h) (Or.inl ⟨by rfl, ?_⟩) ?_
  rotate_left 1
  · (intro wL hL; have lL := (OA.out.but hL (by show ¬ _ = _; omega)).cell; have zL := (OA.out.but hL (by show ¬ _ = _; omega)).lt; go_simp; try with_reducible rfl)
  try simp only [Act.put, List.getElem_toArray, List.getElem_cons_zero, List.getElem_cons_succ, List.setIfInBounds_toArray, List.set_cons_zero, List.set_cons_succ]
  refine monoN_stay (i := 2) (v := ?_) rfl (by kernel_rfl) (by kernel_rfl) (by kernel_rfl) (fun _ _ _ h => h) (Or.inl ⟨by rfl, ?_⟩) ?_
  rotate_left 1
  · (intro wL hL; go_simp; try with_reducible rfl)
  try simp only [Act.put, List.getElem_toArray, List.getElem_cons_zero, List.getElem_cons_succ, List.setIfInBounds_toArray, List.set_cons_zero, List.set_cons_succ]
  refine monoN_stay (i := 3) (v := ?_) rfl (by kernel_rfl) (by kernel_rfl) (by kernel_rfl) (fun _ _ _ h => h) (Or.inl ⟨by rfl, ?_⟩) ?_
  rotate_left 1
  · (intro wL hL; have lL := (OA.out.but hL (by show ¬ _ = _; omega)).cell; have zL := (OA.out.but hL (by show ¬ _ = _; omega)).lt; go_simp; try with_reducible rfl)
  try simp only [Act.put, List.getElem_toArray, List.getElem_cons_zero, List.getElem_cons_succ, List.setIfInBounds_toArray, List.set_cons_zero, List.set_cons_succ]
  refine monoN_stay (i := 4) (v := ?_) rfl (by kernel_rfl) (by kernel_rfl) (by kernel_rfl) (fun _ _ _ h => h) (Or.inl ⟨by rfl, ?_⟩) ?_
  rotate_left 1
  · (intro wL hL; go_simp; try with_reducible rfl)
  try simp only [Act.put, List.getElem_toArray, List.getElem_cons_zero, List.getElem_cons_succ, List.setIfInBounds_toArray, List.set_cons_zero, List.set_cons_succ]
  refine monoN_stay (i := 5) (v := ?_) rfl (by kernel_rfl) (by kernel_rfl) (by kernel_rfl) (fun _ _ _ h => h) (Or.inl ⟨by rfl, ?_⟩) ?_
  rotate_left 1
  · (intro wL hL; have lL := (OA.out.but hL (by show ¬ _ = _; omega)).cell; have zL := (OA.out.but hL (by show ¬ _ = _; omega)).lt; go_simp; try with_reducible rfl)
  try simp only [Act.put, List.getElem_toArray, List.getElem_cons_zero, List.getElem_cons_succ, List.setIfInBounds_toArray, List.set_cons_zero, List.set_cons_succ]
  refine monoN_stay (i := 6) (v := ?_) rfl (by kernel_rfl) (by kernel_rfl) (by kernel_rfl) (fun _ _ _ h => h) (Or.inl ⟨by rfl, ?_⟩) ?_
  rotate_left 1
  · (intro wL hL; go_simp; try with_reducible rfl)
  try simp only [Act.put, List.getElem_toArray, List.getElem_cons_zero, List.getElem_cons_succ, List.setIfInBounds_toArray, List.set_cons_zero, List.set_cons_succ]
  refine monoN_stay (i := 7) (v := ?_) rfl (by kernel_rfl) (by kernel_rfl) (by kernel_rfl) (fun _ _ _ h => h) (Or.inl ⟨by rfl, ?_⟩) ?_
  rotate_left 1
  · (intro wL hL; have lL := (OA.out.but hL (by show ¬ _ = _; omega)).cell; have zL := (OA.out.but hL (by show ¬ _ = _; omega)).lt; go_simp; try with_reducible rfl)
  try simp only [Act.put, List.getElem_toArray, List.getElem_cons_zero, List.getElem_cons_succ, List.setIfInBounds_toArray, List.set_cons_zero, List.set_cons_succ]
  refine monoN_stay (i := 8) (v := ?_) rfl (by kernel_rfl) (by kernel_rfl) (by kernel_rfl) (fun _ _ _ h => h) (Or.inl ⟨by rfl, ?_⟩) ?_
  rotate_left 1
  · (intro wL hL; go_simp; try with_reducible rfl)
  try simp only [Act.put, List.getElem_toArray, List.getElem_cons_zero, List.getElem_cons_succ, List.setIfInBounds_toArray, List.set_cons_zero, List.set_cons_succ]
  refine monoN_stay (i := 9) (v := ?_) rfl (by kernel_rfl) (by kernel_rfl) (by kernel_rfl) (fun _ _ _ h => h) (Or.inl ⟨by rfl, ?_⟩) ?_
  rotate_left 1
  · (intro wL hL; have lL := (OA.out.but hL (by show ¬ _ = _; omega)).cell; have zL := (OA.out.but hL (by show ¬ _ = _; omega)).lt; go_simp; try with_reducible rfl)
  try simp only [Act.put, List.getElem_toArray, List.getElem_cons_zero, List.getElem_cons_succ, List.setIfInBounds_toArray, List.set_cons_zero, List.set_cons_succ]
  refine monoN_stay (i := 10) (v := ?_) rfl (by kernel_rfl) (by kernel_rfl) (by kernel_rfl) (fun _ _ _ h => h) (Or.inl ⟨by rfl, ?_⟩) ?_
  rotate_left 1
  · (intro wL hL; go_simp; try with_reducible rfl)
  try simp only [Act.put, List.getElem_toArray, List.getElem_cons_zero, List.getElem_cons_succ, List.setIfInBounds_toArray, List.set_cons_zero, List.set_cons_succ]
  refine monoN_stay (i := 11) (v := .agg #[.int .i64 m.f.op, .string m.f.text, .int .i64 m.f.n, .float .f64 m.f.x, .float .f64 m.f.y, fv]) rfl (by kernel_rfl) (by kernel_rfl) (by kernel_rfl) (fun _ _ _ h => h) (Or.inl ⟨by rfl, fun wL hL => exec_load_mid 25 _ rfl (w.heap.size) 5 (by rfl) (#[.int .i64 m.f.op, .string m.f.text, .int .i64 m.f.n, .float .f64 m.f.x, .float .f64 m.f.y, fv] : Array Value).toList _ ((OA.out.but hL (by show ¬ _ = _; omega)).part 5 _ (by rfl)) Tryz.underlying25 (by rfl) (by kernel_rfl)⟩) ?_
  try simp only [Act.put, List.getElem_toArray, List.getElem_cons_zero, List.getElem_cons_succ, List.setIfInBounds_toArray, List.set_cons_zero, List.set_cons_succ]
  refine monoN_stay (i := 13) (v := ?_) rfl (by kernel_rfl) (by kernel_rfl) (by kernel_rfl) (fun _ _ _ h => h) (Or.inl ⟨by rfl, ?_⟩) ?_
  rotate_left 1
  · (intro wL hL; go_simp; try with_reducible rfl)
  try simp only [Act.put, List.getElem_toArray, List.getElem_cons_zero, List.getElem_cons_succ, List.setIfInBounds_toArray, List.set_cons_zero, List.set_cons_succ]
  refine monoN_stay (i := 14) (v := .agg (knA m.k.star (.slice ok_ m.k.l.length ck))) rfl (by kernel_rfl) (by kernel_rfl) (by kernel_rfl) (fun _ _ _ h => h) (Or.inl ⟨by rfl, fun wL hL => exec_load_mid 31 _ rfl (w.heap.size) 11 (by rfl) ((knA m.k.star (.slice ok_ m.k.l.length ck)) : Array Value).toList _ ((OA.out.but hL (by show ¬ _ = _; omega)).part 11 _ (by rfl)) Tryz.underlying31 (by rfl) (by kernel_rfl)⟩) ?_
  try simp only [Act.put, List.getElem_toArray, List.getElem_cons_zero, List.getElem_cons_succ, List.setIfInBounds_toArray, List.set_cons_zero, List.set_cons_succ]
  refine monoN_stay (i := 15) (v := ?_) rfl (by kernel_rfl) (by kernel_rfl) (by kernel_rfl) (fun _ _ _ h => h) (Or.inl ⟨by rfl, ?_⟩) ?_
  rotate_left 1
  · (intro wL hL; go_simp; try with_reducible rfl)
  try simp only [Act.put, List.getElem_toArray, List.getElem_cons_zero, List.getElem_cons_succ, List.setIfInBounds_toArray, List.set_cons_zero, List.set_cons_succ]
  refine monoN_stay (i := 16) (v := ?_) rfl (by kernel_rfl) (by kernel_rfl) (by kernel_rfl) (fun _ _ _ h => h) (Or.inl ⟨by rfl, ?_⟩) ?_
  rotate_left 1
  · (intro wL hL; have lL := (OA.out.but hL (by show ¬ _ = _; omega)).cell; have zL := (OA.out.but hL (by show ¬ _ = _; omega)).lt; go_simp; try with_reducible rfl)
  try simp only [Act.put, List.getElem_toArray, List.getElem_cons_zero, List.getElem_cons_succ, List.setIfInBounds_toArray, List.set_cons_zero, List.set_cons_succ]
  refine monoN_stay (i := 17) (v := ?_) rfl (by kernel_rfl) (by kernel_rfl) (by kernel_rfl) (fun _ _ _ h => h) (Or.inl ⟨by rfl, ?_⟩) ?_
  rotate_left 1
  · (intro wL hL; go_simp; try with_reducible rfl)
  try simp only [Act.put, List.getElem_toArray, List.getElem_cons_zero, List.getElem_cons_succ, List.setIfInBounds_toArray, List.set_cons_zero, List.set_cons_succ]
  refine monoN_stay (i := 18) (v := ?_) rfl (by kernel_rfl) (by kernel_rfl) (by kernel_rfl) (fun _ _ _ h => h) (Or.inl ⟨by rfl, ?_⟩) ?_
  rotate_left 1
  · (intro wL hL; have lL := (OA.out.but hL (by show ¬ _ = _; omega)).cell; have zL := (OA.out.but hL (by show ¬ _ = _; omega)).lt; go_simp; try with_reducible rfl)
  try simp only [Act.put, List.getElem_toArray, List.getElem_cons_zero, List.getElem_cons_succ, List.setIfInBounds_toArray, List.set_cons_zero, List.set_cons_succ]
  refine monoN_stay (i := 19) (v := ?_) rfl (by kernel_rfl) (by kernel_rfl) (by kernel_rfl) (fun _ _ _ h => h) (Or.inl ⟨by rfl, ?_⟩) ?_
  rotate_left 1
  · (intro wL hL; go_simp; try with_reducible rfl)
  try simp only [Act.put, List.getElem_toArray, List.getElem_cons_zero, List.getElem_cons_succ, List.setIfInBounds_toArray, List.set_cons_zero, List.set_cons_succ]
  refine monoN_stay (i := 20) (v := ?_) rfl (by kernel_rfl) (by kernel_rfl) (by kernel_rfl) (fun _ _ _ h => h) (Or.inl ⟨by rfl, ?_⟩) ?_
  rotate_left 1
  · (intro wL hL; have lL := (OA.out.but hL (by show ¬ _ = _; omega)).cell; have zL := (OA.out.but hL (by show ¬ _ = _; omega)).lt; go_simp; try with_reducible rfl)
  try simp only [Act.put, List.getElem_toArray, List.getElem_cons_zero, List.getElem_cons_succ, List.setIfInBounds_toArray, List.set_cons_zero, List.set_cons_succ]
  refine monoN_stay (i := 22) (v := ?_) rfl (by kernel_rfl) (by kernel_rfl) (by kernel_rfl) (fun _ _ _ h => h) (Or.inl ⟨by rfl, ?_⟩) ?_
  rotate_left 1
  · (intro wL hL; go_simp; try with_reducible rfl)
  try simp only [Act.put, List.getElem_toArray, List.getElem_cons_zero, List.getElem_cons_succ, List.setIfInBounds_toArray, List.set_cons_zero, List.set_cons_succ]
  refine monoN_stay (i := 23) (v := ?_) rfl (by kernel_rfl) (by kernel_rfl) (by kernel_rfl) (fun _ _ _ h => h) (Or.inl ⟨by rfl, ?_⟩) ?_
  rotate_left 1
  · (intro wL hL; have lL := (OA.out.but hL (by show ¬ _ = _; omega)).cell; have zL := (OA.out.but hL (by show ¬ _ = _; omega)).lt; go_simp; try with_reducible rfl)
  try simp only [Act.put, List.getElem_toArray, List.getElem_cons_zero, List.getElem_cons_succ, List.setIfInBounds_toArray, List.set_cons_zero, List.set_cons_succ]
  refine monoN_r1 (i := 12) (by kernel_rfl) ?_
  have z12OA := OA.out.lt
  have z12OM := OM.out.lt
  refine stepN_call (by rfl) (by rfl) (fun K hK => ?_)
  try simp only [List.getElem_toArray, List.getElem_cons_zero, List.getElem_cons_succ]
  (go_simp; go_at_call 39; refine (CP _ (HM.out.lf.later BEL.out (Nat.le_refl _))).out.mono ?_; rintro e wc ⟨v4, rfl, hl4, hb⟩; have P4 := (show LPF wc _ m.f v4 from hl4).sure; obtain ⟨o4, c4, rfl⟩ := lies_val (show LPF wc _ m.f v4 from hl4).lp; have SP := Lib.hid (P4.mono (T' := fun k => k = w.heap.size + 1) (fun b hb => by have := OM.out.lt; have hb' : b = w.heap.size + 1 := hb; show b < _; omega)); clear hl4 P4)
  try go_wp2_with fail
  refine hK.out _ _ (fun _ => hb) (But.of hb) ?_
  clear hK K
  replace OA := Lib.hid (OA.out.later hb)
  replace OM := Lib.hid (OM.out.later hb)
  replace BEL := Lib.hid (BEL.out.trans (Below.mono hb BEL.out.size))
  clear hb
  try simp only [Act.put, List.getElem_toArray, List.getElem_cons_zero, List.getElem_cons_succ, List.setIfInBounds_toArray, List.set_cons_zero, List.set_cons_succ]
  refine monoN_r1 (i := 21) (by kernel_rfl) ?_
  have z21OA := OA.out.lt
  have z21OM := OM.out.lt
  refine stepN_call (by rfl) (by rfl) (fun K hK => ?_)
  try simp only [List.getElem_toArray, List.getElem_cons_zero, List.getElem_cons_succ]
  (go_simp; go_at_call 40; refine (CE _ (HM.out.ll.later BEL.out)).out.mono ?_; rintro e wc ⟨v5, rfl, hl5, hb⟩; obtain ⟨o5, c5, rfl⟩ := hl5.val; have SE := Lib.hid ((hl5.row (fun _ => rfl)).mono (T' := fun k => k = w.heap.size + 1) (fun b hb => by have := OM.out.lt; have hb' : b = w.heap.size + 1 := hb; show b < _; omega)); clear hl5)
  try go_wp2_with fail
  refine hK.out _ _ (fun _ => hb) (But.of hb) ?_
  clear hK K
  replace OA := Lib.hid (OA.out.later hb)
  replace OM := Lib.hid (OM.out.later hb)
  replace BEL := Lib.hid (BEL.out.trans (Below.mono hb BEL.out.size))
  replace SP := Lib.hid (SP.out.later hb)
  clear hb
  try simp only [Act.put, List.getElem_toArray, List.getElem_cons_zero, List.getElem_cons_succ, List.setIfInBounds_toArray, List.set_cons_zero, List.set_cons_succ]
  refine monoN_stay (i := 24) (v := ?_) rfl (by kernel_rfl) (by kernel_rfl) (by kernel_rfl) (fun _ _ _ h => h) (Or.inl ⟨by rfl, ?_⟩) ?_
  rotate_left 1
  · (intro wL hL; go_simp; try with_reducible rfl)
  try simp only [Act.put, List.getElem_toArray, List.getElem_cons_zero, List.getElem_cons_succ, List.setIfInBounds_toArray, List.set_cons_zero, List.set_cons_succ]
  refine monoN_r1 (i := 25) (by kernel_rfl) ?_
  refine stepN_store (by rfl) (by rfl) 47 _ _ (by rfl) (w.heap.size + 1) (0) (mgA m (.slice o4 m.f.kids.length c4) (.slice ok_ m.k.l.length ck) (.slice oh m.has.length ch) (.slice o5 m.l.length c5)) (by rfl) (by rfl) OM.out (by simp) (by kernel_rfl) (by simp [Value.oneCell']) (by rfl) (rfl) (fun ws hs ho => ?_)
  replace OA := Lib.hid (OA.out.stored hs (by omega))
  replace BEL := Lib.hid (hs.bel (by omega) BEL.out)
  replace SP := Lib.hid (SP.out.stored hs (rfl))
  replace SE := Lib.hid (SE.out.stored hs (rfl))
  replace OM := Lib.hid ho
  clear hs ho
  replace OM := Lib.hid (OM.out.whole (by rfl))
  try simp only [Act.put, List.getElem_toArray, List.getElem_cons_zero, List.getElem_cons_succ, List.setIfInBounds_toArray, List.set_cons_zero, List.set_cons_succ]
  refine monoN_done (by kernel_rfl) ?_ _
  go_wp2_with fail
  exact ret_cell (by rfl) (by rfl) (l := (mgA m (.slice o4 m.f.kids.length c4) (.slice ok_ m.k.l.length ck) (.slice oh m.has.length ch) (.slice o5 m.l.length c5)).toList) OM.out.range Tryz.underlying47 (by rfl) (by kernel_rfl) rfl ⟨_, _, rfl, ⟨SP.out.now, HM.out.lk.later BEL.out (Nat.le_refl _), HM.out.lh.later BEL.out, SE.out.now⟩, BEL.out⟩
end Go.Proofs.YthbjgfennclidaaGreat
