/- Joined: OpenSt, KConc, LocH, LocA. -/
import Derived.Test.YtjkcooakddlppaaGreatJ16
import Derived.Test.YtjkcooakddlppaaGreatJ15
import Derived.Test.YtjkcooakddlppaaGreatJ24
import Derived.Test.YtjkcooakddlppaaGreatJ12
import Derived.Shelf.Spec.SlicesGrow
import Derived.Lib.AppendZeros
import Derived.Test.YtjkcooakddlppaaGreatJ14
import Derived.Test.YtjkcooakddlppaaGreatJ18
import Derived.Test.YtjkcooakddlppaaGreatJ17
import Derived.Test.YtjkcooakddlppaaGreatJ02
import Derived.Deep.RegionHeld3
import Derived.Test.YtjkcooakddlppaaGreatJ22
import Derived.Lib.SliceRun
/- What the arguments of the laws read as: states, deeds. -/
namespace Go.Proofs.YtjkcooakddlppaaGreat
set_option linter.unusedVariables false
set_option linter.unusedSimpArgs false
set_option maxRecDepth 100000
open Go.ChangeShapes Go.WideShapes Go.ChangeAt Go.RowKit Go.Deep
abbrev siL (s : St) (fv sv ov kv : Value) : List Value := [.int .i64 s.r, .int .i64 s.f.op, .string s.f.text, .int .i64 s.f.n, .float .f64 s.f.x, .float .f64 s.f.y, fv, sv, ov, .int .i64 (s.k.star 0), .int .i64 (s.k.star 1), .int .i64 (s.k.star 2), .int .i64 (s.k.star 3), .int .i64 (s.k.star 4), .int .i64 (s.k.star 5), .int .i64 (s.k.star 6), .int .i64 (s.k.star 7), kv, .int .i64 s.count, .int .i64 s.clock, .int .i64 s.epoch]
abbrev siV (s : St) (fv sv ov kv : Value) : Value := .agg #[.int .i64 s.r, .int .i64 s.f.op, .string s.f.text, .int .i64 s.f.n, .float .f64 s.f.x, .float .f64 s.f.y, fv, sv, ov, .int .i64 (s.k.star 0), .int .i64 (s.k.star 1), .int .i64 (s.k.star 2), .int .i64 (s.k.star 3), .int .i64 (s.k.star 4), .int .i64 (s.k.star 5), .int .i64 (s.k.star 6), .int .i64 (s.k.star 7), kv, .int .i64 s.count, .int .i64 s.clock, .int .i64 s.epoch]
structure SiW (w : World) (s : St) (fv sv ov kv : Value) : Prop where
  lf : LT w s.f fv
  ls : Row 9 rc w s.store sv
  lo : Row 9 rc w s.out ov
  lk : FrW w s.k.l kv
theorem SiW.later {w w' : World} {s : St} {fv sv ov kv : Value} (h : SiW w s fv sv ov kv) (hb : Below w.heap.size w w') : SiW w' s fv sv ov kv :=
  ⟨h.lf.later hb (Nat.le_refl _), h.ls.later hb, h.lo.later hb, h.lk.later hb (Nat.le_refl _)⟩
theorem SiW.alloc {w : World} {s : St} {fv sv ov kv : Value} (h : SiW w s fv sv ov kv) (o : Obj) : SiW (w.alloc o) s fv sv ov kv := h.later ((Below.refl _ _).alloc (Nat.le_refl _) _)
theorem SiW.drew {w : World} {s : St} {fv sv ov kv : Value} (h : SiW w s fv sv ov kv) : SiW w.drew s fv sv ov kv := h.later (Below.refl _ _).drew
structure De where
  what : Int
  id : ByteArray
  kd : ByteArray
  num : Int
  x : Nat
  y : Nat
  f : Pr
structure DeW (w : World) (d : De) (fv : Value) : Prop where
  lf : LT w d.f fv
  id : d.id.size ≤ maxLen
  kd : d.kd.size ≤ maxLen
  what : -9223372036854775808 ≤ d.what ∧ d.what ≤ 9223372036854775807
theorem DeW.later {w w' : World} {d : De} {fv : Value} (h : DeW w d fv) (hb : Below w.heap.size w w') : DeW w' d fv := ⟨h.lf.later hb (Nat.le_refl _), h.id, h.kd, h.what⟩
section
variable {H : Type} {enc : TypeId × Value → H} {w : World} {base : Nat} {spare : Nat → Bool} {held : Bool} {fuel : Nat} {cs : List Value} {x : DataW H × List MemPlace}
set_option maxRecDepth 100000 in
theorem trod_know (h : DataW.trod enc Tryz.prog w base spare held fuel 31 cs = some x) : ∃ (K : Kn) (u : Value), cs = [.int .i64 (K.star 0), .int .i64 (K.star 1), .int .i64 (K.star 2), .int .i64 (K.star 3), .int .i64 (K.star 4), .int .i64 (K.star 5), .int .i64 (K.star 6), .int .i64 (K.star 7), u] ∧ FrW w K.l u := by
  obtain ⟨xs, n, hn, hx, hl, hxl, hf⟩ := DataW.trod_struct Tryz.underlying31 h
  have hl' : cs.length = 9 := hl.trans (by kernel_rfl)
  have hxl' : xs.length = 2 := hxl.trans (by kernel_rfl)
  have h0 : DataW.trod enc Tryz.prog w base spare held n 28 ((cs.drop 0).take (Tryz.prog.cellsOf 28)) = xs[0]? := hf 0 _ rfl
  have h1 : DataW.trod enc Tryz.prog w base spare held n 29 ((cs.drop 8).take (Tryz.prog.cellsOf 29)) = xs[1]? := hf 1 _ rfl
  rw [show Tryz.prog.cellsOf 28 = 8 by kernel_rfl, List.getElem?_eq_getElem (by omega)] at h0
  rw [show Tryz.prog.cellsOf 29 = 1 by kernel_rfl, List.getElem?_eq_getElem (by omega)] at h1
  match cs, hl' with
  | [c0, c1, c2, c3, c4, c5, c6, c7, c8], _ =>
    obtain ⟨A, e'⟩ := trod_vec h0
    obtain ⟨l, u, e, ht⟩ := trod_frags h1
    simp at e e'
    obtain ⟨e1, e2, e3, e4, e5, e6, e7, e8⟩ := e'
    subst e e1 e2 e3 e4 e5 e6 e7 e8
    exact ⟨⟨A, l⟩, _, rfl, ht⟩
set_option maxRecDepth 100000 in
set_option maxHeartbeats 1000000 in
theorem trod_sit (h : DataW.trod enc Tryz.prog w base spare held fuel 33 cs = some x) : ∃ (s : St) (fv sv ov kv : Value), cs = siL s fv sv ov kv ∧ SiW w s fv sv ov kv := by
  obtain ⟨xs, n, hn, hx, hl, hxl, hf⟩ := DataW.trod_struct Tryz.underlying33 h
  have hl' : cs.length = 21 := hl.trans (by kernel_rfl)
  have hxl' : xs.length = 8 := hxl.trans (by kernel_rfl)
  have g0 : DataW.trod enc Tryz.prog w base spare held n 3 ((cs.drop 0).take (Tryz.prog.cellsOf 3)) = xs[0]? := hf 0 _ rfl
  have g1 : DataW.trod enc Tryz.prog w base spare held n 25 ((cs.drop 1).take (Tryz.prog.cellsOf 25)) = xs[1]? := hf 1 _ rfl
  have g2 : DataW.trod enc Tryz.prog w base spare held n 26 ((cs.drop 7).take (Tryz.prog.cellsOf 26)) = xs[2]? := hf 2 _ rfl
  have g3 : DataW.trod enc Tryz.prog w base spare held n 26 ((cs.drop 8).take (Tryz.prog.cellsOf 26)) = xs[3]? := hf 3 _ rfl
  have g4 : DataW.trod enc Tryz.prog w base spare held n 31 ((cs.drop 9).take (Tryz.prog.cellsOf 31)) = xs[4]? := hf 4 _ rfl
  have g5 : DataW.trod enc Tryz.prog w base spare held n 3 ((cs.drop 18).take (Tryz.prog.cellsOf 3)) = xs[5]? := hf 5 _ rfl
  have g6 : DataW.trod enc Tryz.prog w base spare held n 3 ((cs.drop 19).take (Tryz.prog.cellsOf 3)) = xs[6]? := hf 6 _ rfl
  have g7 : DataW.trod enc Tryz.prog w base spare held n 3 ((cs.drop 20).take (Tryz.prog.cellsOf 3)) = xs[7]? := hf 7 _ rfl
  rw [show Tryz.prog.cellsOf 3 = 1 by kernel_rfl, List.getElem?_eq_getElem (by omega)] at g0 g5 g6 g7
  rw [show Tryz.prog.cellsOf 25 = 6 by kernel_rfl, List.getElem?_eq_getElem (by omega)] at g1
  rw [show Tryz.prog.cellsOf 26 = 1 by kernel_rfl, List.getElem?_eq_getElem (by omega)] at g2 g3
  rw [show Tryz.prog.cellsOf 31 = 9 by kernel_rfl, List.getElem?_eq_getElem (by omega)] at g4
  match cs, hl' with
  | [c0, c1, c2, c3, c4, c5, c6, c7, c8, c9, c10, c11, c12, c13, c14, c15, c16, c17, c18, c19, c20], _ =>
    obtain ⟨z0, k0, _⟩ := DataW.trod_int Tryz.underlying3 g0
    obtain ⟨q, kq, k1, hq⟩ := trod_tree n _ _ g1
    obtain ⟨l2, v2, k2, r2⟩ := trod_rows g2
    obtain ⟨l3, v3, k3, r3⟩ := trod_rows g3
    obtain ⟨K, ku, k4, r4⟩ := trod_know g4
    obtain ⟨z5, k5, _⟩ := DataW.trod_int Tryz.underlying3 g5
    obtain ⟨z6, k6, _⟩ := DataW.trod_int Tryz.underlying3 g6
    obtain ⟨z7, k7, _⟩ := DataW.trod_int Tryz.underlying3 g7
    simp [tc] at k0 k1 k2 k3 k4 k5 k6 k7
    obtain ⟨a1, a2, a3, a4, a5, a6⟩ := k1
    obtain ⟨b1, b2, b3, b4, b5, b6, b7, b8, b9⟩ := k4
    subst k0 a1 a2 a3 a4 a5 a6 k2 k3 b1 b2 b3 b4 b5 b6 b7 b8 b9 k5 k6 k7
    exact ⟨⟨z0, q, l2, l3, K, z5, z6, z7⟩, _, _, _, _, rfl, hq, r2, r3, r4⟩
set_option maxRecDepth 100000 in
theorem open_sit {r : Reach} {b0 : Nat} {v : Value} {d : DataW H} {p : List MemPlace} (hv : Value.okWide Tryz.prog w r b0 33 v) (h : DataW.Trod enc Tryz.prog w base spare held 33 v d p) :
    ∃ (s : St) (fv sv ov kv : Value), v = siV s fv sv ov kv ∧ SiW w s fv sv ov kv := by
  obtain ⟨l, rfl, hsz⟩ := okWide_struct Tryz.underlying33 hv
  obtain ⟨f, hf⟩ := h
  obtain ⟨s, fv, sv, ov, kv, e, hs⟩ := trod_sit hf
  refine ⟨s, fv, sv, ov, kv, ?_, hs⟩
  obtain ⟨l⟩ := l
  have : l = _ := e
  rw [this]
end
end Go.Proofs.YtjkcooakddlppaaGreat
/- Pieces of two lists, one behind the other: slices.Concat, walked over the library's contract of slices.Grow, laid at this program. -/
namespace Go.Proofs.YtjkcooakddlppaaGreat
set_option linter.unusedVariables false
set_option linter.unusedSimpArgs false
set_option maxRecDepth 100000
open Go.RowKit
def growA_ren : Go.Shelf.Ren := ⟨fun | 4 => 144 | n => n,
  fun | 22 => 29 | 25 => 115 | 3 => 3 | 4 => 4 | 9 => 9 | 20 => 20 | 0 => 0 | n => n,
  fun | n => n⟩
theorem growA : Go.Proofs.Lays8.n4 Tryz.prog growA_ren := {
  mixed := by kernel_rfl,
  f4 := ⟨Tryz.f144.name, by decide, Tryz.func144.trans (congrArg some (by kernel_rfl))⟩,
  t0 := Tryz.underlying0,
  a0 := Tryz.isAgg0,
  z0 := Tryz.sizeOf0,
  v0 := Tryz.zeroValue0,
  t3 := Tryz.underlying3,
  a3 := Tryz.isAgg3,
  z3 := Tryz.sizeOf3,
  v3 := Tryz.zeroValue3,
  t4 := Tryz.underlying4,
  a4 := Tryz.isAgg4,
  z4 := Tryz.sizeOf4,
  v4 := Tryz.zeroValue4,
  t9 := Tryz.underlying9,
  a9 := Tryz.isAgg9,
  z9 := Tryz.sizeOf9,
  v9 := Tryz.zeroValue9,
  t20 := Tryz.underlying20,
  a20 := Tryz.isAgg20,
  z20 := Tryz.sizeOf20,
  v20 := Tryz.zeroValue20,
  t22 := Tryz.underlying29,
  a22 := Tryz.isAgg29,
  z22 := Tryz.sizeOf29,
  v22 := Tryz.zeroValue29 }
theorem grow_calls (n : Nat) (hn : n ≤ 20000) (w : World) :
    Calls Tryz.prog 144 #[.slice none 0 0, .int .i64 n] w fun e w' => ∃ v, e = .returned v ∧ w'.ownsRow w.heap.size 115 9 v 0 [] ∧ Below w.heap.size w w' := by
  obtain ⟨j0, hj, hy0, hy1, hy2⟩ := info_parts info_frag
  by_cases h0 : n = 0
  · subst h0
    refine (Any8.slices_Grow_room growA none 0 0 0 w (by omega) (by omega) (by omega) (by omega)).mono ?_
    rintro e w' ⟨rfl, rfl⟩
    exact ⟨_, rfl, World.ownsRow_nil _ _ _ _, Below.refl _ _⟩
  · refine (Any8.slices_Grow_grow growA j0 _ hj hy0 (by rw [hy1]; omega) none 0 0 n [] w (by omega) (by omega) (by rw [hy2]; omega) (by omega) (by simp) (fun _ => rfl) (fun a h => by cases h)).mono ?_
    rintro e w' ⟨rfl, rfl⟩
    have hge := grownCap_ge w (0 + n) 0 (growA_ren.t 25)
    have hle := grownCap_le_maxLen w (0 + n) 0 (growA_ren.t 25) (by unfold maxLen; omega)
    refine ⟨_, rfl, ⟨by simp, .inr ⟨w.heap.size, _, _, rfl, Nat.le_refl _, heap_alloc_new w.drew _, by omega, hle, ?_, by simp⟩⟩, (Below.refl _ _).drew.alloc (Nat.le_refl _) _⟩
    simp only [Array.size_append, List.size_toArray, size_zeroCells, List.length_nil, Nat.zero_add, Nat.sub_zero]
    rw [← Nat.add_mul]
    rw [show (Value.cells (.agg #[.slice none 0 0, .int .i64 0, .int .i64 0, .int .i64 0, .int .i64 0, .int .i64 0, .int .i64 0, .int .i64 0, .int .i64 0])).size = 9 from rfl]
    congr 1
    simp only [Nat.zero_add] at hge
    omega
theorem storeNone (a : Addr) (w : World) : (storeCells a []).run Tryz.prog w = .ok () w := by simp [storeCells]
theorem run_append_zero (ty : TypeId) (base oa : Option Addr) (n cap c : Nat) (hn : n ≤ cap) (w : World) :
    (Builtin.append_ #[29, 29] ty #[.slice base n cap, .slice oa 0 c]).run Tryz.prog w = .ok (.slice base n cap) w := by
  obtain ⟨j0, hj, hy0, hy1, hy2⟩ := info_parts info_frag
  have hf : (Builtin.firstCells j0.size 0 (.slice oa 0 c)).run Tryz.prog w = .ok #[] w := by
    cases oa with
    | none => exact run_firstCells_none w _ _ _ _
    | some a => exact run_firstCells_some w j0.size 0 a 0 c [] (by simp) (fun j v h => by simp at h)
  cases base with
  | none => simp [Builtin.append_, run_underlying Tryz.underlying29, sizeOf, typeInfo, hj, Builtin.lenOf, hn, hf, Result.andThen]
  | some a => simp [Builtin.append_, run_underlying Tryz.underlying29, sizeOf, typeInfo, hj, Builtin.lenOf, hn, hf, storeNone, Result.andThen]
theorem frCs_news {w : World} {l : List Fr} {U : Nat → Value} {oa : Option Addr} {cap b o : Nat} (h : FrAt w l U oa cap b o) : ∀ j u, (frCs U 0 l)[j]? = some u → w.cell? ((⟨b, o, none⟩ : Addr).add j) = some u := by
  intro j u hu
  have hj : j < (frCs U 0 l).length := (List.getElem?_eq_some_iff.1 hu).1
  rw [frCs_len] at hj
  obtain ⟨i, r, hr, rfl⟩ : ∃ i r, r < 9 ∧ j = i * 9 + r := ⟨j / 9, j % 9, Nat.mod_lt _ (by omega), by omega⟩
  obtain ⟨f, hf⟩ : ∃ f, l[i]? = some f := ⟨_, List.getElem?_eq_getElem (by omega)⟩
  rw [frCs_get U 0 l i f hf r hr, Nat.zero_add] at hu
  have := h.cell i f hf r u hu
  rw [← this]
  by_cases e : i * 9 + r = 0
  · obtain ⟨rfl, rfl⟩ : i = 0 ∧ r = 0 := by omega
    simp [Addr.add]
  · simp only [Addr.add]
    first | rw [if_neg e, Nat.add_assoc] | (rw [Nat.add_assoc]; split <;> first | rfl | omega) | (simp [Nat.add_assoc]; intro h1 h2; omega)
theorem kfrCs_one {w : World} {l : List Fr} {U : Nat → Value} {oa : Option Addr} {cap b o : Nat} (h : FrAt w l U oa cap b o) : ∀ u ∈ frCs U 0 l, u.oneCell' = true := by
  intro u hu
  obtain ⟨j, hj⟩ := List.getElem?_of_mem hu
  have hlt : j < (frCs U 0 l).length := (List.getElem?_eq_some_iff.1 hj).1
  rw [frCs_len] at hlt
  obtain ⟨i, r, hr, rfl⟩ : ∃ i r, r < 9 ∧ j = i * 9 + r := ⟨j / 9, j % 9, Nat.mod_lt _ (by omega), by omega⟩
  obtain ⟨f, hf⟩ : ∃ f, l[i]? = some f := ⟨_, List.getElem?_eq_getElem (by omega)⟩
  rw [frCs_get U 0 l i f hf r hr, Nat.zero_add] at hj
  obtain ⟨oq, cq, e⟩ := (h.ids i f hf).val
  exact oneF f (by rw [e]; rfl) u (List.mem_of_getElem? hj)
theorem run_append_frags (ty : TypeId) {w : World} {base n : Nat} {v sv : Value} {xs : List Value} {l : List Fr} (hown : w.ownsRow base 115 9 v n xs) {U : Nat → Value} {oa : Option Addr} {cap b o : Nat} (hsv : sv = .slice oa l.length cap) (h : FrAt w l U oa cap b o)
    (hn : n + l.length ≤ 30000) (hbase : base ≤ w.heap.size) :
    ∃ v' w', (Builtin.append_ #[29, 29] ty #[v, sv]).run Tryz.prog w = .ok v' w' ∧ w'.ownsRow base 115 9 v' (n + l.length) (xs ++ frCs U 0 l) ∧ w.grownBy w' v.ownBlock := by
  subst hsv
  obtain ⟨j0, hj, hy0, hy1, hy2⟩ := info_parts info_frag
  by_cases h0 : l.length = 0
  · have e : l = [] := List.length_eq_zero_iff.1 h0
    subst e
    obtain ⟨ov, cv, gv, e, h1, _⟩ := row_slice hown
    subst e
    refine ⟨_, w, run_append_zero ty ov oa n cv cap h1 w, ?_, ⟨rfl, rfl, rfl, Nat.le_refl _, fun _ _ _ => rfl⟩⟩
    simpa [frCs] using hown
  · obtain ⟨rfl, hb⟩ := h.at0 (by omega)
    obtain ⟨v', w', r1, r2, r3, _⟩ := run_append_own w base 29 ty 115 j0 _ 9 88 Tryz.underlying29 hj hy0 hy1 hy2 rfl (by omega) v n xs hown ⟨b, o, none⟩ l.length cap (frCs U 0 l) (frCs_len U 0 l) (frCs_news h) (kfrCs_one h) (by unfold maxLen; omega) (by omega) hbase
    exact ⟨v', w', r1, r2, r3⟩
theorem rowFr {w : World} {base : Nat} {l : List Fr} {U : Nat → Value} {v : Value} (h : w.ownsRow base 115 9 v l.length (frCs U 0 l)) (hi : ∀ k f, l[k]? = some f → TxW w f.ids (U k)) : FrW w l v := by
  obtain ⟨oa, cap, g, e, h1, h2, hg⟩ := row_slice h
  subst e
  refine ⟨U, oa, cap, g, 0, rfl, h1, h2, fun h0 => ⟨(hg h0).1, (hg h0).2.2⟩, fun k f hf j u hu => ?_, hi⟩
  obtain ⟨rfl, _⟩ := hg (by have := posA hf; omega)
  have hj : j < 9 := (List.getElem?_eq_some_iff.1 hu).1
  have hk := posA hf
  rw [Nat.zero_add, h.cellAt (k * 9 + j) (by omega), frCs_get _ _ _ _ _ hf _ hj, Nat.zero_add]
  exact hu
def bothU (U V : Nat → Value) (n : Nat) : Nat → Value := fun i => if i < n then U i else V (i - n)
theorem bothU_cells (U V : Nat → Value) (l m : List Fr) : frCs U 0 l ++ frCs V 0 m = frCs (bothU U V l.length) 0 (l ++ m) := by
  rw [frCs_app, Nat.zero_add]
  congr 1
  · exact frCs_congr fun i hi => by simp [bothU, hi]
  · have : ∀ (s t : Nat) (q : List Fr), (∀ i, i < q.length → V (t + i) = bothU U V l.length (s + i)) → frCs V t q = frCs (bothU U V l.length) s q := by
      intro s t q
      induction q generalizing s t with
      | nil => intro _; rfl
      | cons p q ih =>
        intro h
        rw [frCs, frCs, show V t = bothU U V l.length s from h 0 (by simp), ih (s + 1) (t + 1) fun i hi => by have := h (i + 1) (by simp; omega); rwa [show t + (i + 1) = t + 1 + i by omega, show s + (i + 1) = s + 1 + i by omega] at this]
    exact this l.length 0 m fun i hi => by
      unfold bothU; rw [if_neg (by omega), Nat.zero_add, Nat.add_sub_cancel_left]
structure Srcs (w : World) (L : Nat → List Fr) (V : Nat → Value) (U : Nat → Nat → Value) (bs : Nat) : Prop where
  lt : bs < w.heap.size
  cell : ∀ k, k < 2 → w.cell? ⟨bs, k, none⟩ = some (V k)
  lies : ∀ k, k < 2 → ∃ oa cap b o, V k = .slice oa (L k).length cap ∧ FrAt w (L k) (U k) oa cap b o
  len : (L 0).length + (L 1).length ≤ 20000
def totL (L : Nat → List Fr) : Nat → Nat
  | 0 => 0
  | k + 1 => totL L k + (L k).length
def totC (L : Nat → List Fr) (U : Nat → Nat → Value) : Nat → List Value
  | 0 => []
  | k + 1 => totC L U k ++ frCs (U k) 0 (L k)
theorem Srcs.tot {w : World} {L : Nat → List Fr} {V : Nat → Value} {U : Nat → Nat → Value} {bs : Nat} (h : Srcs w L V U bs) : ∀ k, k ≤ 2 → totL L k ≤ 20000 := by
  intro k hk
  have := h.len
  obtain rfl | rfl | rfl : k = 0 ∨ k = 1 ∨ k = 2 := by omega
  · simp [totL]
  · simp only [totL]; omega
  · simp only [totL]; omega
def KSumRel (L : Nat → List Fr) (w0 : World) (s i : Value) (wr : World) : Prop := ∃ k : Nat, k ≤ 2 ∧ i = .int .i64 k ∧ s = .int .i64 (totL L k) ∧ Hid (w0 = wr)
def CatRel (L : Nat → List Fr) (U : Nat → Nat → Value) (w0 : World) (v i : Value) (wr : World) : Prop :=
  ∃ k : Nat, k ≤ 2 ∧ i = .int .i64 k ∧ Hid (wr.ownsRow w0.heap.size 115 9 v (totL L k) (totC L U k)) ∧ Hid (Below w0.heap.size w0 wr)
set_option maxRecDepth 100000 in
set_option maxHeartbeats 4000000 in
theorem concat_walk (L : Nat → List Fr) (V : Nat → Value) (U : Nat → Nat → Value) (bs : Nat) (w : World) (hS : Srcs w L V U bs) :
    Calls Tryz.prog 95 #[.slice (some ⟨bs, 0, none⟩) 2 2] w fun e w' => ∃ v, e = .returned v ∧ w'.ownsRow w.heap.size 115 9 v (totL L 2) (totC L U 2) ∧ Below w.heap.size w w' := by
  have HS := Lib.hid hS
  have G := fun w' => Lib.hid (grow_calls (totL L 2) (HS.out.tot 2 (by omega)) w')
  clear hS
  go_enter Tryz.func95, Tryz.ntmps95
  go_wp2_with fail
  go_loopw [3, 11] (fun s i wr => KSumRel L w s i wr) (fun _ i _ => 2 - (intOf i).toNat)
  case atStart => exact ⟨0, by omega, rfl, rfl, rfl⟩
  case round =>
    obtain ⟨k, hk, rfl, rfl, hw⟩ := hrel
    have ew := hw.out
    subst ew
    clear hw
    by_cases hlt : k < 2
    · obtain ⟨oa, cap, b, o, hV, hF⟩ := HS.out.lies k hlt
      have cv := HS.out.cell k hlt
      rw [hV] at cv
      have zb := HS.out.lt
      have t1 := HS.out.tot k hk
      have t2 := HS.out.tot (k + 1) (by omega)
      have t3 : totL L (k + 1) = totL L k + (L k).length := rfl
      have k0 : (0 : Int) ≤ (k : Int) := by omega
      have k1 : (k : Int) < 2 := by omega
      have hq : ((L k).length : Int) ≤ 20000 := by omega
      have hq0 : (0 : Int) ≤ ((L k).length : Int) := by omega
      have HT := Lib.hid t3
      clear t2 t3 hV hF
      generalize (L k).length = m at *
      generalize ht : totL L k = t at *
      have hneg : decide (((t : Int) + (m : Int)) < 0) = false := decide_eq_false (by omega)
      go_wp2_with fail
      go_roundw
      case rel => exact ⟨k + 1, by omega, by go_num, by rw [HT.out]; go_num, rfl⟩
      case measure => simp [intOf]; omega
    · have e : k = 2 := by omega
      subst e
      go_wp2_with (go_at_call 144; refine (G _).out.mono ?_; rintro e w1 ⟨v0, rfl, hr0, hb0⟩)
      have C0 : CatRel L U w v0 (.int .i64 0) w1 := ⟨0, by omega, rfl, hr0, hb0⟩
      clear hr0 hb0
      go_loopw [6, 27] (fun v i wr => CatRel L U w v i wr) (fun _ i _ => 2 - (intOf i).toNat)
      case atStart => exact C0
      case round =>
        clear C0
        obtain ⟨k, hk, rfl, HR, HB⟩ := hrel
        by_cases hlt : k < 2
        · obtain ⟨oa, cap, b, o, hV, hF⟩ := HS.out.lies k hlt
          have cv := (HB.out.cell (p := ⟨bs, k, none⟩) HS.out.lt).trans (HS.out.cell k hlt)
          rw [hV] at cv
          have zb : bs < wr.heap.size := Nat.lt_of_lt_of_le HS.out.lt HB.out.size
          have t1 := HS.out.tot (k + 1) (by omega)
          simp only [totL] at t1
          have k0 : (0 : Int) ≤ (k : Int) := by omega
          have k1 : (k : Int) < 2 := by omega
          have hF' := hF.later HB.out (Nat.le_refl _)
          have AP := fun ty => run_append_frags ty HR.out rfl hF' (by omega) HB.out.size
          have HA := Lib.hid AP
          obtain ⟨ov, cvv, gv, rfl, _, _, _⟩ := row_slice HR.out
          clear hF hF' AP hV
          go_wp2_with (at_builtin; obtain ⟨v', w', hrun, hown, hgr⟩ := HA.out _; refine Lib.wpList_append_run _ rfl _ _ _ _ rfl _ _ rfl rfl _ _ hrun ?_)
          have HB2 := Lib.hid (HB.out.grown hgr HB.out.size fun q hq => (World.ownsRow.lt HR.out q hq).1)
          go_roundw
          case rel => exact ⟨k + 1, by omega, by go_num, hown, HB2⟩
          case measure => simp [intOf]; omega
        · have e : k = 2 := by omega
          subst e
          go_wp2_with fail
          go_ret
          exact ⟨_, rfl, HR.out, HB.out⟩
theorem concat_row (l m : List Fr) (U0 U1 : Nat → Value) (oa oa' : Option Addr) (cap cap' b b' o o' : Nat) (bs : Nat) (w : World) (hlt : bs < w.heap.size) (c0 : w.cell? ⟨bs, 0, none⟩ = some (.slice oa l.length cap)) (c1 : w.cell? ⟨bs, 1, none⟩ = some (.slice oa' m.length cap')) (h0 : FrAt w l U0 oa cap b o) (h1 : FrAt w m U1 oa' cap' b' o') (hlen : l.length + m.length ≤ 20000) :
    Calls Tryz.prog 95 #[.slice (some ⟨bs, 0, none⟩) 2 2] w fun e w' => ∃ u, e = .returned u ∧ w'.ownsRow w.heap.size 115 9 u (l ++ m).length (frCs (bothU U0 U1 l.length) 0 (l ++ m)) ∧ Below w.heap.size w w' := by
  refine (concat_walk (fun k => if k = 0 then l else m) (fun k => if k = 0 then .slice oa l.length cap else .slice oa' m.length cap') (fun k => if k = 0 then U0 else U1) bs w ⟨hlt, fun k hk => ?_, fun k hk => ?_, by simpa using hlen⟩).mono ?_
  · obtain rfl | rfl : k = 0 ∨ k = 1 := by omega
    · simpa using c0
    · simpa using c1
  · obtain rfl | rfl : k = 0 ∨ k = 1 := by omega
    · exact ⟨_, _, _, _, rfl, h0⟩
    · exact ⟨_, _, _, _, rfl, h1⟩
  · rintro e w' ⟨u, rfl, hr, hb⟩
    refine ⟨u, rfl, ?_, hb⟩
    simp only [totL, totC] at hr
    simp only [if_pos, List.nil_append, Nat.zero_add, show ((1 : Nat) = 0) = False by simp, if_false, if_true] at hr
    rw [bothU_cells, ← List.length_append] at hr
    exact hr
theorem bothFr {w : World} {base : Nat} {l m : List Fr} {U0 U1 : Nat → Value} {u : Value} (h : w.ownsRow base 115 9 u (l ++ m).length (frCs (bothU U0 U1 l.length) 0 (l ++ m))) (h0 : ∀ k f, l[k]? = some f → TxW w f.ids (U0 k)) (h1 : ∀ k f, m[k]? = some f → TxW w f.ids (U1 k)) : FrW w (l ++ m) u := by
  refine rowFr h fun k f hf => ?_
  by_cases hk : k < l.length
  · rw [List.getElem?_append_left hk] at hf
    simp only [bothU, hk, if_true]
    exact h0 k f hf
  · rw [List.getElem?_append_right (by omega)] at hf
    simp only [bothU, hk, if_false]
    exact h1 _ f hf
end Go.Proofs.YtjkcooakddlppaaGreat
/- The laws' own helpers of states and deeds: an error's number, a number modulo, whether a state is small. Walked. -/
namespace Go.Proofs.YtjkcooakddlppaaGreat
set_option linter.unusedVariables false
set_option linter.unusedSimpArgs false
set_option maxRecDepth 100000
open Go.RowKit
def smallI (p : Pr) : Int := if p.size ≤ 60 then 1 else 0
def fitsI (s : St) : Int := if 60 < s.store.length ∨ 60 < s.out.length then 0 else smallI s.f * knownI s.k
set_option maxRecDepth 100000 in
set_option maxHeartbeats 4000000 in
theorem fitsS_calls (s : St) (fv sv ov kv : Value) (w : World) (hS : SiW w s fv sv ov kv) :
    Calls Tryz.prog 7 #[siV s fv sv ov kv] w fun e w' => e = .returned (.int .i64 (fitsI s)) ∧ Below w.heap.size w w' := by
  obtain ⟨o1, c1, rfl⟩ := hS.ls.val
  obtain ⟨o2, c2, rfl⟩ := hS.lo.val
  have OA := Lib.hid (Has.new w (siL s fv (.slice o1 s.store.length c1) (.slice o2 s.out.length c2) kv).toArray 33)
  have BEL := Lib.hid ((Below.refl w.heap.size w).alloc (Nat.le_refl _) (.cells (siL s fv (.slice o1 s.store.length c1) (.slice o2 s.out.length c2) kv).toArray 33))
  have HS := Lib.hid (hS.alloc (.cells (siL s fv (.slice o1 s.store.length c1) (.slice o2 s.out.length c2) kv).toArray 33))
  have C1 := fun w' h => Lib.hid (small_calls s.f fv w' h)
  have C2 := fun w' h => Lib.hid (known_calls s.k kv w' h)
  clear hS
  have l0 := OA.out.cell
  have z0 := OA.out.lt
  unfold fitsI smallI
  by_cases hb : 60 < s.store.length ∨ 60 < s.out.length
  · rw [if_pos hb]
    have hways : decide ((60 : Int) < (s.store.length : Int)) = true ∨ (decide ((60 : Int) < (s.store.length : Int)) = false ∧ decide ((60 : Int) < (s.out.length : Int)) = true) := by
      by_cases h : 60 < s.store.length
      · exact .inl (decide_eq_true (by omega))
      · refine .inr ⟨decide_eq_false (by omega), decide_eq_true ?_⟩
        rcases hb with h' | h'
        · exact absurd h' h
        · omega
    clear hb C1 C2
    rcases hways with g1 | ⟨g1, g2⟩
    all_goals
      go_enter Tryz.func7, Tryz.ntmps7
      go_wp2_with fail
      go_ret
      exact ⟨rfl, BEL.out⟩
  · rw [if_neg hb]
    have g1 : decide ((60 : Int) < (s.store.length : Int)) = false := decide_eq_false (by omega)
    have g2 : decide ((60 : Int) < (s.out.length : Int)) = false := decide_eq_false (by omega)
    clear hb
    have hv : Hid (((if s.f.size ≤ 60 then (1 : Int) else 0) = 0 ∨ (if s.f.size ≤ 60 then (1 : Int) else 0) = 1) ∧ (knownI s.k = 0 ∨ knownI s.k = 1)) := Lib.hid ⟨by split <;> simp, by unfold knownI; split <;> simp⟩
    generalize (if s.f.size ≤ 60 then (1 : Int) else 0) = a at *
    generalize knownI s.k = b at *
    have hv2 := hv.out
    clear hv
    rcases hv2 with ⟨rfl | rfl, rfl | rfl⟩
    all_goals
      go_enter Tryz.func7, Tryz.ntmps7
      go_upto_region 3 with fail
      have OA2 := Lib.hid OA.out.drew
      have HS2 := Lib.hid HS.out.drew
      have BE2 := Lib.hid BEL.out.drew
      clear l0 z0
      go_region_held3 (fun w' => ∀ o, w'.cell? ⟨w.heap.size, o, none⟩ = (siL s fv (.slice o1 s.store.length c1) (.slice o2 s.out.length c2) kv).toArray[o]?) (first | with_reducible exact OA2.out.cell) (first
        | (go_simp; go_at_call 17; refine (C1 _ HS2.out.lf).out.mono ?_; rintro e w3 ⟨rfl, hb⟩; replace OA2 := Lib.hid (OA2.out.below hb OA2.out.lt); replace HS2 := Lib.hid (HS2.out.later hb); replace BE2 := Lib.hid (BE2.out.trans (hb.mono BE2.out.size)); clear hb)
        | (go_simp; go_at_call 30; refine (C2 _ HS2.out.lk).out.mono ?_; rintro e w4 ⟨rfl, hb⟩; replace OA2 := Lib.hid (OA2.out.below hb OA2.out.lt); replace HS2 := Lib.hid (HS2.out.later hb); replace BE2 := Lib.hid (BE2.out.trans (hb.mono BE2.out.size)); clear hb)
        | fail)
      go_wp2_with fail
      go_ret
      exact ⟨rfl, BE2.out⟩
theorem flat_le : ∀ {l : List Fr}, (∀ x ∈ l, decide (x.ids.length ≤ 60) = true) → (flatI l).length ≤ 60 * l.length
  | [], _ => by simp [flatI]
  | a :: l, h => by
    have h5 := flat_le (l := l) fun x hx => h x (by simp [hx])
    have h6 := of_decide_eq_true (h a (by simp))
    simp only [flatI, List.flatMap_cons, List.length_append, List.length_cons] at *
    omega
theorem fits_is {s : St} (h : fitsI s = 1) : StB s := by
  unfold fitsI smallI knownI at h
  split at h
  · cases h
  · rename_i h1
    split at h
    · split at h
      · rename_i h2 h3
        unfold knownB at h3
        rw [Bool.and_eq_true, decide_eq_true_eq, List.all_eq_true] at h3
        have hk := flat_le h3.2
        have h4 := h3.1
        exact ⟨h2, by omega, by omega, by omega, by omega⟩
      · cases h
    · split at h <;> cases h
theorem may_same {f : Pr} (h : Pr.mayB f = true) : Pr.same f f = true := by
  unfold Pr.mayB Pr.fitsB at h
  rw [Bool.and_eq_true, Bool.and_eq_true] at h
  exact Pr.all_same f h.2.2
end Go.Proofs.YtjkcooakddlppaaGreat
/- slices.Clone: what lies there, in new memory. Walked. -/
namespace Go.Proofs.YtjkcooakddlppaaGreat
set_option linter.unusedVariables false
set_option linter.unusedSimpArgs false
set_option maxRecDepth 100000
open Go.RowKit
theorem run_append_src (t ty e : TypeId) (i : TypeInfo) (z : Value) (size bytes : Nat) (ht : Tryz.prog.underlying t = some (.slice e)) (hi : Tryz.prog.info? e = some i) (hz : i.zero = some z)
    (hsize : i.size = size) (hby : i.bytes = bytes) (hzs : z.cells.size = size) (hsz : 0 < size) {w : World} {base : Nat} {v : Value} {n : Nat} {xs : List Value} (hown : w.ownsRow base e size v n xs)
    (oa : Option Addr) (m c : Nat) (news : List Value) (hl : news.length = m * size) (hnews : 0 < m → ∃ b o, oa = some ⟨b, o, none⟩ ∧ ∀ j u, news[j]? = some u → w.cell? ⟨b, o + j, none⟩ = some u) (h1 : ∀ u ∈ news, u.oneCell' = true)
    (h63 : n + m ≤ 30000) (hb : bytes ≤ 1000) (hbase : base ≤ w.heap.size) :
    ∃ v' w', (Builtin.append_ #[t, t] ty #[v, .slice oa m c]).run Tryz.prog w = .ok v' w' ∧ w'.ownsRow base e size v' (n + m) (xs ++ news) ∧ w.grownBy w' v.ownBlock := by
  by_cases h0 : m = 0
  · subst h0
    obtain ⟨ov, cv, gv, e', h1', _⟩ := row_slice hown
    subst e'
    have hf : (Builtin.firstCells i.size 0 (.slice oa 0 c)).run Tryz.prog w = .ok #[] w := by
      cases oa with
      | none => exact run_firstCells_none w _ _ _ _
      | some a => exact run_firstCells_some w i.size 0 a 0 c [] (by simp) (fun j v h => by simp at h)
    have hn : news = [] := List.length_eq_zero_iff.1 (by omega)
    subst hn
    have hr : (Builtin.append_ #[t, t] ty #[.slice ov n cv, .slice oa 0 c]).run Tryz.prog w = .ok (.slice ov n cv) w := by
      cases ov with
      | none => simp [Builtin.append_, run_underlying ht, sizeOf, typeInfo, hi, Builtin.lenOf, h1', hf, Result.andThen]
      | some a => simp [Builtin.append_, run_underlying ht, sizeOf, typeInfo, hi, Builtin.lenOf, h1', hf, storeNone, Result.andThen]
    exact ⟨_, w, hr, by simpa using hown, ⟨rfl, rfl, rfl, Nat.le_refl _, fun _ _ _ => rfl⟩⟩
  · obtain ⟨b, o, rfl, hn⟩ := hnews (by omega)
    obtain ⟨v', w', r1, r2, r3, _⟩ := run_append_own w base t ty e i z size bytes ht hi hz hsize hby hzs hsz v n xs hown ⟨b, o, none⟩ m c news hl (fun j u hu => by rw [add_none]; exact hn j u hu) h1 (by unfold maxLen; omega) (Nat.le_trans (Nat.mul_le_mul h63 hb) (by decide)) hbase
    exact ⟨v', w', r1, r2, r3⟩
theorem own_empty (w : World) (e : TypeId) (size : Nat) : (w.alloc (.cells #[] e)).ownsRow w.heap.size e size (.slice (some ⟨w.heap.size, 0, none⟩) 0 0) 0 [] :=
  ⟨by simp, .inr ⟨w.heap.size, 0, #[], rfl, Nat.le_refl _, heap_alloc_new w _, Nat.le_refl _, Nat.zero_le _, by simp, by simp⟩⟩
theorem infoPd : (Tryz.prog.info? 43).map (fun i => (i.zero, i.size, i.bytes)) = some (some (.agg #[.int .i64 0, .string ⟨#[]⟩, .int .i64 0, .complex .f64 0 0, .slice none 0 0]), 5, 72) := by kernel_rfl
set_option maxRecDepth 100000 in
set_option maxHeartbeats 4000000 in
theorem cloneI_walk (oa : Option Addr) (m c : Nat) (news : List Value) (w : World) (hl : news.length = m * 8) (hnews : 0 < m → ∃ b o, oa = some ⟨b, o, none⟩ ∧ b < w.heap.size ∧ ∀ j u, news[j]? = some u → w.cell? ⟨b, o + j, none⟩ = some u) (h1 : ∀ u ∈ news, u.oneCell' = true) (hm : m ≤ 30000) (hc : c ≤ maxLen) :
    Calls Tryz.prog 85 #[.slice oa m c] w fun e w' => ∃ v', e = .returned v' ∧ w'.ownsRow w.heap.size 49 8 v' m news ∧ Below w.heap.size w w' := by
  obtain ⟨j0, hj, hy0, hy1, hy2⟩ := info_parts info_item
  cases oa with
  | none =>
    have hm0 : m = 0 := by
      rcases Nat.eq_zero_or_pos m with h | h
      · exact h
      · obtain ⟨_, _, h2, _⟩ := hnews h; cases h2
    subst hm0
    have hn : news = [] := List.length_eq_zero_iff.1 (by omega)
    subst hn
    clear hnews h1 hl
    have qT : ∀ w : World, (binOp .eql 44 (.slice none 0 c) (.slice none 0 0)).run Tryz.prog w = .ok (.bool true) w := fun w => Lib.run_eql_slice_nil w _ _ none 0 c 0 0 Tryz.underlying44
    go_enter Tryz.func85, Tryz.ntmps85
    go_wp2_with fail
    go_ret
    exact ⟨_, rfl, World.ownsRow_nil _ _ _ _, Below.refl _ _⟩
  | some a =>
    have B0 : Below w.heap.size w (w.alloc (.cells #[] 49)) := (Below.refl _ _).alloc (Nat.le_refl _) _
    have HA := Lib.hid (fun ty => run_append_src 44 ty 49 j0 _ 8 88 Tryz.underlying44 hj hy0 hy1 hy2 rfl (by omega) (own_empty w 49 8) (some a) m c news hl (fun h => by
      obtain ⟨b, o, e, hb, hn⟩ := hnews h
      exact ⟨b, o, e, fun j u hu => (B0.cell (p := ⟨b, o + j, none⟩) hb).trans (hn j u hu)⟩) h1 (by omega) (by omega) B0.size)
    have HB0 := Lib.hid B0
    clear hnews h1 hl B0 hj hy0 hy1 hy2
    have qT : ∀ w : World, (binOp .eql 44 (.slice (some a) m c) (.slice none 0 0)).run Tryz.prog w = .ok (.bool false) w := fun w => Lib.run_eql_slice_nil w _ _ (some a) m c 0 0 Tryz.underlying44
    go_enter Tryz.func85, Tryz.ntmps85
    go_wp2_with (at_builtin; obtain ⟨v', w', hrun, hown, hgr⟩ := HA.out _; refine Lib.wpList_append_run _ rfl _ _ _ _ rfl _ _ rfl rfl _ _ hrun ?_)
    go_ret
    exact ⟨_, rfl, by simpa using hown, HB0.out.grown hgr HB0.out.size (fun k hk => by simp [Value.ownBlock] at hk; omega)⟩
set_option maxRecDepth 100000 in
set_option maxHeartbeats 4000000 in
theorem cloneF_walk (oa : Option Addr) (m c : Nat) (news : List Value) (w : World) (hl : news.length = m * 9) (hnews : 0 < m → ∃ b o, oa = some ⟨b, o, none⟩ ∧ b < w.heap.size ∧ ∀ j u, news[j]? = some u → w.cell? ⟨b, o + j, none⟩ = some u) (h1 : ∀ u ∈ news, u.oneCell' = true) (hm : m ≤ 30000) (hc : c ≤ maxLen) :
    Calls Tryz.prog 130 #[.slice oa m c] w fun e w' => ∃ v', e = .returned v' ∧ w'.ownsRow w.heap.size 115 9 v' m news ∧ Below w.heap.size w w' := by
  obtain ⟨j0, hj, hy0, hy1, hy2⟩ := info_parts info_frag
  cases oa with
  | none =>
    have hm0 : m = 0 := by
      rcases Nat.eq_zero_or_pos m with h | h
      · exact h
      · obtain ⟨_, _, h2, _⟩ := hnews h; cases h2
    subst hm0
    have hn : news = [] := List.length_eq_zero_iff.1 (by omega)
    subst hn
    clear hnews h1 hl
    have qT : ∀ w : World, (binOp .eql 29 (.slice none 0 c) (.slice none 0 0)).run Tryz.prog w = .ok (.bool true) w := fun w => Lib.run_eql_slice_nil w _ _ none 0 c 0 0 Tryz.underlying29
    go_enter Tryz.func130, Tryz.ntmps130
    go_wp2_with fail
    go_ret
    exact ⟨_, rfl, World.ownsRow_nil _ _ _ _, Below.refl _ _⟩
  | some a =>
    have B0 : Below w.heap.size w (w.alloc (.cells #[] 115)) := (Below.refl _ _).alloc (Nat.le_refl _) _
    have HA := Lib.hid (fun ty => run_append_src 29 ty 115 j0 _ 9 88 Tryz.underlying29 hj hy0 hy1 hy2 rfl (by omega) (own_empty w 115 9) (some a) m c news hl (fun h => by
      obtain ⟨b, o, e, hb, hn⟩ := hnews h
      exact ⟨b, o, e, fun j u hu => (B0.cell (p := ⟨b, o + j, none⟩) hb).trans (hn j u hu)⟩) h1 (by omega) (by omega) B0.size)
    have HB0 := Lib.hid B0
    clear hnews h1 hl B0 hj hy0 hy1 hy2
    have qT : ∀ w : World, (binOp .eql 29 (.slice (some a) m c) (.slice none 0 0)).run Tryz.prog w = .ok (.bool false) w := fun w => Lib.run_eql_slice_nil w _ _ (some a) m c 0 0 Tryz.underlying29
    go_enter Tryz.func130, Tryz.ntmps130
    go_wp2_with (at_builtin; obtain ⟨v', w', hrun, hown, hgr⟩ := HA.out _; refine Lib.wpList_append_run _ rfl _ _ _ _ rfl _ _ rfl rfl _ _ hrun ?_)
    go_ret
    exact ⟨_, rfl, by simpa using hown, HB0.out.grown hgr HB0.out.size (fun k hk => by simp [Value.ownBlock] at hk; omega)⟩
set_option maxRecDepth 100000 in
set_option maxHeartbeats 4000000 in
theorem cloneT_walk (oa : Option Addr) (m c : Nat) (news : List Value) (w : World) (hl : news.length = m * 1) (hnews : 0 < m → ∃ b o, oa = some ⟨b, o, none⟩ ∧ b < w.heap.size ∧ ∀ j u, news[j]? = some u → w.cell? ⟨b, o + j, none⟩ = some u) (h1 : ∀ u ∈ news, u.oneCell' = true) (hm : m ≤ 30000) (hc : c ≤ maxLen) :
    Calls Tryz.prog 131 #[.slice oa m c] w fun e w' => ∃ v', e = .returned v' ∧ w'.ownsRow w.heap.size 9 1 v' m news ∧ Below w.heap.size w w' := by
  obtain ⟨j0, hj, hy0, hy1, hy2⟩ := info_parts info_text
  cases oa with
  | none =>
    have hm0 : m = 0 := by
      rcases Nat.eq_zero_or_pos m with h | h
      · exact h
      · obtain ⟨_, _, h2, _⟩ := hnews h; cases h2
    subst hm0
    have hn : news = [] := List.length_eq_zero_iff.1 (by omega)
    subst hn
    clear hnews h1 hl
    have qT : ∀ w : World, (binOp .eql 113 (.slice none 0 c) (.slice none 0 0)).run Tryz.prog w = .ok (.bool true) w := fun w => Lib.run_eql_slice_nil w _ _ none 0 c 0 0 Tryz.underlying113
    go_enter Tryz.func131, Tryz.ntmps131
    go_wp2_with fail
    go_ret
    exact ⟨_, rfl, World.ownsRow_nil _ _ _ _, Below.refl _ _⟩
  | some a =>
    have B0 : Below w.heap.size w (w.alloc (.cells #[] 9)) := (Below.refl _ _).alloc (Nat.le_refl _) _
    have HA := Lib.hid (fun ty => run_append_src 113 ty 9 j0 _ 1 16 Tryz.underlying113 hj hy0 hy1 hy2 rfl (by omega) (own_empty w 9 1) (some a) m c news hl (fun h => by
      obtain ⟨b, o, e, hb, hn⟩ := hnews h
      exact ⟨b, o, e, fun j u hu => (B0.cell (p := ⟨b, o + j, none⟩) hb).trans (hn j u hu)⟩) h1 (by omega) (by omega) B0.size)
    have HB0 := Lib.hid B0
    clear hnews h1 hl B0 hj hy0 hy1 hy2
    have qT : ∀ w : World, (binOp .eql 113 (.slice (some a) m c) (.slice none 0 0)).run Tryz.prog w = .ok (.bool false) w := fun w => Lib.run_eql_slice_nil w _ _ (some a) m c 0 0 Tryz.underlying113
    go_enter Tryz.func131, Tryz.ntmps131
    go_wp2_with (at_builtin; obtain ⟨v', w', hrun, hown, hgr⟩ := HA.out _; refine Lib.wpList_append_run _ rfl _ _ _ _ rfl _ _ rfl rfl _ _ hrun ?_)
    go_ret
    exact ⟨_, rfl, by simpa using hown, HB0.out.grown hgr HB0.out.size (fun k hk => by simp [Value.ownBlock] at hk; omega)⟩
set_option maxRecDepth 100000 in
set_option maxHeartbeats 4000000 in
theorem cloneP_walk (oa : Option Addr) (m c : Nat) (news : List Value) (w : World) (hl : news.length = m * 5) (hnews : 0 < m → ∃ b o, oa = some ⟨b, o, none⟩ ∧ b < w.heap.size ∧ ∀ j u, news[j]? = some u → w.cell? ⟨b, o + j, none⟩ = some u) (h1 : ∀ u ∈ news, u.oneCell' = true) (hm : m ≤ 30000) (hc : c ≤ maxLen) :
    Calls Tryz.prog 152 #[.slice oa m c] w fun e w' => ∃ v', e = .returned v' ∧ w'.ownsRow w.heap.size 43 5 v' m news ∧ Below w.heap.size w w' := by
  obtain ⟨j0, hj, hy0, hy1, hy2⟩ := info_parts infoPd
  cases oa with
  | none =>
    have hm0 : m = 0 := by
      rcases Nat.eq_zero_or_pos m with h | h
      · exact h
      · obtain ⟨_, _, h2, _⟩ := hnews h; cases h2
    subst hm0
    have hn : news = [] := List.length_eq_zero_iff.1 (by omega)
    subst hn
    clear hnews h1 hl
    have qT : ∀ w : World, (binOp .eql 41 (.slice none 0 c) (.slice none 0 0)).run Tryz.prog w = .ok (.bool true) w := fun w => Lib.run_eql_slice_nil w _ _ none 0 c 0 0 Tryz.underlying41
    go_enter Tryz.func152, Tryz.ntmps152
    go_wp2_with fail
    go_ret
    exact ⟨_, rfl, World.ownsRow_nil _ _ _ _, Below.refl _ _⟩
  | some a =>
    have B0 : Below w.heap.size w (w.alloc (.cells #[] 43)) := (Below.refl _ _).alloc (Nat.le_refl _) _
    have HA := Lib.hid (fun ty => run_append_src 41 ty 43 j0 _ 5 72 Tryz.underlying41 hj hy0 hy1 hy2 rfl (by omega) (own_empty w 43 5) (some a) m c news hl (fun h => by
      obtain ⟨b, o, e, hb, hn⟩ := hnews h
      exact ⟨b, o, e, fun j u hu => (B0.cell (p := ⟨b, o + j, none⟩) hb).trans (hn j u hu)⟩) h1 (by omega) (by omega) B0.size)
    have HB0 := Lib.hid B0
    clear hnews h1 hl B0 hj hy0 hy1 hy2
    have qT : ∀ w : World, (binOp .eql 41 (.slice (some a) m c) (.slice none 0 0)).run Tryz.prog w = .ok (.bool false) w := fun w => Lib.run_eql_slice_nil w _ _ (some a) m c 0 0 Tryz.underlying41
    go_enter Tryz.func152, Tryz.ntmps152
    go_wp2_with (at_builtin; obtain ⟨v', w', hrun, hown, hgr⟩ := HA.out _; refine Lib.wpList_append_run _ rfl _ _ _ _ rfl _ _ rfl rfl _ _ hrun ?_)
    go_ret
    exact ⟨_, rfl, by simpa using hown, HB0.out.grown hgr HB0.out.size (fun k hk => by simp [Value.ownBlock] at hk; omega)⟩
/-! ### What is cloned -/
theorem cloneI_calls (l : List Itm) (v : Value) (w : World) (hR : Row 8 ic w l v) (hm : l.length ≤ 30000) :
    Calls Tryz.prog 85 #[v] w fun e w' => ∃ v', e = .returned v' ∧ OwnI w' w.heap.size l v' ∧ Below w.heap.size w w' := by
  obtain ⟨oa, cap, b, o, rfl, h⟩ := hR
  exact cloneI_walk oa l.length cap (cellsI l) w (cellsI_len l) (fun h0 => ⟨b, o, (h.at0 h0).1, (h.at0 h0).2, fun j u hu => by
    obtain ⟨rfl, _⟩ := h.at0 h0
    have := rowI_news h rfl j u hu
    rwa [add_none] at this⟩) (cellsI_one8 l) hm h.max
theorem cloneT_calls (l : List ByteArray) (v : Value) (w : World) (hR : TxW w l v) (hm : l.length ≤ 30000) :
    Calls Tryz.prog 131 #[v] w fun e w' => ∃ v', e = .returned v' ∧ OwnT w' w.heap.size l v' ∧ Below w.heap.size w w' := by
  obtain ⟨oa, cap, b, o, rfl, h⟩ := hR
  exact cloneT_walk oa l.length cap (txC l) w (by simp [txC]) (fun h0 => ⟨b, o, (h.at0 h0).1, (h.at0 h0).2, fun j u hu => by
    unfold txC at hu
    rw [List.getElem?_map] at hu
    obtain ⟨s, hs, rfl⟩ := Option.map_eq_some_iff.1 hu
    exact h.cell j s hs⟩) (fun u hu => by
    unfold txC at hu
    obtain ⟨s, _, rfl⟩ := List.mem_map.1 hu
    rfl) hm h.max
theorem cloneF_calls (l : List Fr) (U : Nat → Value) (oa : Option Addr) (cap b o : Nat) (w : World) (h : FrAt w l U oa cap b o) (hm : l.length ≤ 30000) :
    Calls Tryz.prog 130 #[.slice oa l.length cap] w fun e w' => ∃ v', e = .returned v' ∧ w'.ownsRow w.heap.size 115 9 v' l.length (frCs U 0 l) ∧ Below w.heap.size w w' :=
  cloneF_walk oa l.length cap (frCs U 0 l) w (frCs_len U 0 l) (fun h0 => ⟨b, o, (h.at0 h0).1, (h.at0 h0).2, fun j u hu => by
    obtain ⟨rfl, _⟩ := h.at0 h0
    have := frCs_news h j u hu
    rwa [add_none] at this⟩) (kfrCs_one h) hm h.max
theorem cloneP_calls (l : List Pr) (V : Nat → Value) (oa : Option Addr) (cap b o : Nat) (w : World) (hc : cap ≤ maxLen) (hn : 0 < l.length → oa = some ⟨b, o, none⟩ ∧ b < w.heap.size)
    (hcell : ∀ i p, l[i]? = some p → ∀ j u, (pc p (V i))[j]? = some u → w.cell? ⟨b, o + i * 5 + j, none⟩ = some u) (h1 : ∀ i p, l[i]? = some p → (V i).oneCell' = true) (hm : l.length ≤ 30000) :
    Calls Tryz.prog 152 #[.slice oa l.length cap] w fun e w' => ∃ v', e = .returned v' ∧ w'.ownsRow w.heap.size 43 5 v' l.length (newsOf V 0 l) ∧ Below w.heap.size w w' :=
  cloneP_walk oa l.length cap (newsOf V 0 l) w (news_len V 0 l) (fun h0 => ⟨b, o, (hn h0).1, (hn h0).2, fun j u hu => by
    have hj := (List.getElem?_eq_some_iff.1 hu).1
    rw [news_len] at hj
    have hp : l[j / 5]? = some l[j / 5] := List.getElem?_eq_getElem (by omega)
    have e : j = j / 5 * 5 + j % 5 := by omega
    rw [e, news_get V 0 l _ _ hp _ (by omega), Nat.zero_add] at hu
    have := hcell _ _ hp _ _ hu
    rw [show o + j / 5 * 5 + j % 5 = o + j by omega] at this
    exact this⟩) (news_mem fun i p hp => by rw [Nat.zero_add]; exact h1 i p hp) hm hc
end Go.Proofs.YtjkcooakddlppaaGreat
