/- Joined: RowF, OpenSt, LocH, LocS, RefOwnK. -/
import Derived.Test.YtjepnaefkfkpcaaJ18
import Derived.Test.YtjepnaefkfkpcaaJ14
import Derived.Test.YtjepnaefkfkpcaaJ15
import Derived.Test.YtjepnaefkfkpcaaJ16
import Derived.Test.YtjepnaefkfkpcaaJ02
import Derived.Deep.RegionHeld3
import Derived.Test.YtjepnaefkfkpcaaJ11
/- States: the document's laid, walked. -/
namespace Go.Proofs.Ytjepnaefkfkpcaa
set_option linter.unusedVariables false
set_option linter.unusedSimpArgs false
set_option maxRecDepth 100000
open Go.RowKit
def RowF (w : World) (B : Nat) (l : List Itm) (v : Value) : Prop := ∃ oa cap b o, v = .slice oa l.length cap ∧ RowAt 8 ic w l oa cap b o ∧ (0 < l.length → B ≤ b)
theorem RowF.row {w : World} {B : Nat} {l : List Itm} {v : Value} (h : RowF w B l v) : Row 8 ic w l v := by
  obtain ⟨oa, cap, b, o, e, h, _⟩ := h; exact ⟨oa, cap, b, o, e, h⟩
theorem RowF.later {w w' : World} {B : Nat} {l : List Itm} {v : Value} (h : RowF w B l v) (hb : Below w.heap.size w w') : RowF w' B l v := by
  obtain ⟨oa, cap, b, o, e, h, h2⟩ := h; exact ⟨oa, cap, b, o, e, h.later hb, h2⟩
theorem RowF.sub {w w' : World} {B : Nat} {l : List Itm} {v : Value} (h : RowF w B l v) (hs : w.heap.size ≤ w'.heap.size) (hc : ∀ b o, B ≤ b → w'.cell? ⟨b, o, none⟩ = w.cell? ⟨b, o, none⟩) : RowF w' B l v := by
  obtain ⟨oa, cap, b, o, e, h, h2⟩ := h
  refine ⟨oa, cap, b, o, e, ⟨h.len, h.max, fun h0 => ⟨(h.at0 h0).1, Nat.lt_of_lt_of_le (h.at0 h0).2 hs⟩, fun k i hk j u hu => ?_, h.ok⟩, h2⟩
  rw [hc _ _ (h2 (by have := some_posI hk; omega))]
  exact h.cell k i hk j u hu
theorem RowF.set {w : World} {B : Nat} {l : List Itm} {v : Value} (h : RowF w B l v) {b q : Nat} (hb : b < B) (u : Value) : RowF (w.setCell ⟨b, q, none⟩ u) B l v :=
  h.sub (by simp [World.setCell]) fun b' o hb' => by
    apply World.cell?_setCell_other
    intro e
    have : b = b' := congrArg Addr.block e
    omega
theorem RowF.sets {B b : Nat} {l : List Itm} {v : Value} (hb : b < B) (vs : List Value) : ∀ {w : World} (o : Nat), RowF w B l v → RowF (w.setCells b o vs) B l v := by
  induction vs with
  | nil => intro w o h; exact h
  | cons u r ih => intro w o h; exact ih (o + 1) (h.set hb u)
theorem RowF.mono {w : World} {B B' : Nat} {l : List Itm} {v : Value} (h : RowF w B l v) (hb : B' ≤ B) : RowF w B' l v := by
  obtain ⟨oa, cap, b, o, e, h, h2⟩ := h; exact ⟨oa, cap, b, o, e, h, fun h0 => Nat.le_trans hb (h2 h0)⟩
theorem OwnI.rowF {w : World} {B : Nat} {l : List Itm} {v : Value} (h : OwnI w B l v) (hok : ∀ i ∈ l, i.id.size ≤ maxLen ∧ i.kd.size ≤ maxLen) : RowF w B l v := by
  obtain ⟨oa, cap, g, e, h1, h2, hg⟩ := row_slice h
  have hr := h.row hok
  subst e
  refine ⟨oa, cap, g, 0, rfl, ⟨h1, h2, fun h0 => ⟨(hg h0).1, (hg h0).2.2⟩, fun k i hk j u hu => ?_, hok⟩, fun h0 => (hg h0).2.1⟩
  obtain ⟨oa', cap', b', o', e', hr'⟩ := hr
  cases e'
  have h0 : 0 < l.length := by have := some_posI hk; omega
  have e1 := (hg h0).1
  rw [(hr'.at0 h0).1] at e1
  cases e1
  exact hr'.cell k i hk j u hu
def laidOut (s : St) (x : Itm) (keep : Bool) : List Itm := if hasT s.f x = true then s.out.filter (neB x.id) else if keep = true then putI (s.out.filter (neB x.id)) x else s.out.filter (neB x.id)
end Go.Proofs.Ytjepnaefkfkpcaa
/- What the arguments of the laws read as: states, deeds. -/
namespace Go.Proofs.Ytjepnaefkfkpcaa
set_option linter.unusedVariables false
set_option linter.unusedSimpArgs false
set_option maxRecDepth 100000
open Go.ChangeShapes Go.WideShapes Go.ChangeAt Go.RowKit Go.Deep
abbrev siL (s : St) (fv sv ov kv : Value) : List Value := [.int .i64 s.r, .int .i64 s.f.op, .string s.f.text, .int .i64 s.f.n, .float .f64 s.f.x, .float .f64 s.f.y, fv, sv, ov, .int .i64 (s.k.star 0), .int .i64 (s.k.star 1), .int .i64 (s.k.star 2), .int .i64 (s.k.star 3), .int .i64 (s.k.star 4), .int .i64 (s.k.star 5), .int .i64 (s.k.star 6), .int .i64 (s.k.star 7), kv, .int .i64 s.count, .int .i64 s.clock, .int .i64 s.epoch]
abbrev siV (s : St) (fv sv ov kv : Value) : Value := .agg #[.int .i64 s.r, .int .i64 s.f.op, .string s.f.text, .int .i64 s.f.n, .float .f64 s.f.x, .float .f64 s.f.y, fv, sv, ov, .int .i64 (s.k.star 0), .int .i64 (s.k.star 1), .int .i64 (s.k.star 2), .int .i64 (s.k.star 3), .int .i64 (s.k.star 4), .int .i64 (s.k.star 5), .int .i64 (s.k.star 6), .int .i64 (s.k.star 7), kv, .int .i64 s.count, .int .i64 s.clock, .int .i64 s.epoch]
structure SiW (w : World) (s : St) (fv sv ov kv : Value) : Prop where
  lf : LT w s.f fv
  ls : Row 9 rc w s.store sv
  lo : Row 9 rc w s.out ov
  lk : FrW w s.k.l kv
theorem SiW.later {w w' : World} {s : St} {fv sv ov kv : Value} (h : SiW w s fv sv ov kv) (hb : Below w.heap.size w w') : SiW w' s fv sv ov kv :=
  ⟨h.lf.later hb (Nat.le_refl _), h.ls.later hb, h.lo.later hb, h.lk.later hb (Nat.le_refl _)⟩
theorem SiW.alloc {w : World} {s : St} {fv sv ov kv : Value} (h : SiW w s fv sv ov kv) (o : Obj) : SiW (w.alloc o) s fv sv ov kv := h.later ((Below.refl _ _).alloc (Nat.le_refl _) _)
theorem SiW.drew {w : World} {s : St} {fv sv ov kv : Value} (h : SiW w s fv sv ov kv) : SiW w.drew s fv sv ov kv := h.later (Below.refl _ _).drew
structure De where
  what : Int
  id : ByteArray
  kd : ByteArray
  num : Int
  x : Nat
  y : Nat
  f : Pr
structure DeW (w : World) (d : De) (fv : Value) : Prop where
  lf : LT w d.f fv
  id : d.id.size ≤ maxLen
  kd : d.kd.size ≤ maxLen
  what : -9223372036854775808 ≤ d.what ∧ d.what ≤ 9223372036854775807
theorem DeW.later {w w' : World} {d : De} {fv : Value} (h : DeW w d fv) (hb : Below w.heap.size w w') : DeW w' d fv := ⟨h.lf.later hb (Nat.le_refl _), h.id, h.kd, h.what⟩
section
variable {H : Type} {enc : TypeId × Value → H} {w : World} {base : Nat} {spare : Nat → Bool} {held : Bool} {fuel : Nat} {cs : List Value} {x : DataW H × List MemPlace}
set_option maxRecDepth 100000 in
theorem trod_know (h : DataW.trod enc Try.prog w base spare held fuel 31 cs = some x) : ∃ (K : Kn) (u : Value), cs = [.int .i64 (K.star 0), .int .i64 (K.star 1), .int .i64 (K.star 2), .int .i64 (K.star 3), .int .i64 (K.star 4), .int .i64 (K.star 5), .int .i64 (K.star 6), .int .i64 (K.star 7), u] ∧ FrW w K.l u := by
  obtain ⟨xs, n, hn, hx, hl, hxl, hf⟩ := DataW.trod_struct Try.underlying31 h
  have hl' : cs.length = 9 := hl.trans (by kernel_rfl)
  have hxl' : xs.length = 2 := hxl.trans (by kernel_rfl)
  have h0 : DataW.trod enc Try.prog w base spare held n 28 ((cs.drop 0).take (Try.prog.cellsOf 28)) = xs[0]? := hf 0 _ rfl
  have h1 : DataW.trod enc Try.prog w base spare held n 29 ((cs.drop 8).take (Try.prog.cellsOf 29)) = xs[1]? := hf 1 _ rfl
  rw [show Try.prog.cellsOf 28 = 8 by kernel_rfl, List.getElem?_eq_getElem (by omega)] at h0
  rw [show Try.prog.cellsOf 29 = 1 by kernel_rfl, List.getElem?_eq_getElem (by omega)] at h1
  match cs, hl' with
  | [c0, c1, c2, c3, c4, c5, c6, c7, c8], _ =>
    obtain ⟨A, e'⟩ := trod_vec h0
    obtain ⟨l, u, e, ht⟩ := trod_frags h1
    simp at e e'
    obtain ⟨e1, e2, e3, e4, e5, e6, e7, e8⟩ := e'
    subst e e1 e2 e3 e4 e5 e6 e7 e8
    exact ⟨⟨A, l⟩, _, rfl, ht⟩
set_option maxRecDepth 100000 in
set_option maxHeartbeats 1000000 in
theorem trod_sit (h : DataW.trod enc Try.prog w base spare held fuel 33 cs = some x) : ∃ (s : St) (fv sv ov kv : Value), cs = siL s fv sv ov kv ∧ SiW w s fv sv ov kv := by
  obtain ⟨xs, n, hn, hx, hl, hxl, hf⟩ := DataW.trod_struct Try.underlying33 h
  have hl' : cs.length = 21 := hl.trans (by kernel_rfl)
  have hxl' : xs.length = 8 := hxl.trans (by kernel_rfl)
  have g0 : DataW.trod enc Try.prog w base spare held n 3 ((cs.drop 0).take (Try.prog.cellsOf 3)) = xs[0]? := hf 0 _ rfl
  have g1 : DataW.trod enc Try.prog w base spare held n 25 ((cs.drop 1).take (Try.prog.cellsOf 25)) = xs[1]? := hf 1 _ rfl
  have g2 : DataW.trod enc Try.prog w base spare held n 26 ((cs.drop 7).take (Try.prog.cellsOf 26)) = xs[2]? := hf 2 _ rfl
  have g3 : DataW.trod enc Try.prog w base spare held n 26 ((cs.drop 8).take (Try.prog.cellsOf 26)) = xs[3]? := hf 3 _ rfl
  have g4 : DataW.trod enc Try.prog w base spare held n 31 ((cs.drop 9).take (Try.prog.cellsOf 31)) = xs[4]? := hf 4 _ rfl
  have g5 : DataW.trod enc Try.prog w base spare held n 3 ((cs.drop 18).take (Try.prog.cellsOf 3)) = xs[5]? := hf 5 _ rfl
  have g6 : DataW.trod enc Try.prog w base spare held n 3 ((cs.drop 19).take (Try.prog.cellsOf 3)) = xs[6]? := hf 6 _ rfl
  have g7 : DataW.trod enc Try.prog w base spare held n 3 ((cs.drop 20).take (Try.prog.cellsOf 3)) = xs[7]? := hf 7 _ rfl
  rw [show Try.prog.cellsOf 3 = 1 by kernel_rfl, List.getElem?_eq_getElem (by omega)] at g0 g5 g6 g7
  rw [show Try.prog.cellsOf 25 = 6 by kernel_rfl, List.getElem?_eq_getElem (by omega)] at g1
  rw [show Try.prog.cellsOf 26 = 1 by kernel_rfl, List.getElem?_eq_getElem (by omega)] at g2 g3
  rw [show Try.prog.cellsOf 31 = 9 by kernel_rfl, List.getElem?_eq_getElem (by omega)] at g4
  match cs, hl' with
  | [c0, c1, c2, c3, c4, c5, c6, c7, c8, c9, c10, c11, c12, c13, c14, c15, c16, c17, c18, c19, c20], _ =>
    obtain ⟨z0, k0, _⟩ := DataW.trod_int Try.underlying3 g0
    obtain ⟨q, kq, k1, hq⟩ := trod_tree n _ _ g1
    obtain ⟨l2, v2, k2, r2⟩ := trod_rows g2
    obtain ⟨l3, v3, k3, r3⟩ := trod_rows g3
    obtain ⟨K, ku, k4, r4⟩ := trod_know g4
    obtain ⟨z5, k5, _⟩ := DataW.trod_int Try.underlying3 g5
    obtain ⟨z6, k6, _⟩ := DataW.trod_int Try.underlying3 g6
    obtain ⟨z7, k7, _⟩ := DataW.trod_int Try.underlying3 g7
    simp [tc] at k0 k1 k2 k3 k4 k5 k6 k7
    obtain ⟨a1, a2, a3, a4, a5, a6⟩ := k1
    obtain ⟨b1, b2, b3, b4, b5, b6, b7, b8, b9⟩ := k4
    subst k0 a1 a2 a3 a4 a5 a6 k2 k3 b1 b2 b3 b4 b5 b6 b7 b8 b9 k5 k6 k7
    exact ⟨⟨z0, q, l2, l3, K, z5, z6, z7⟩, _, _, _, _, rfl, hq, r2, r3, r4⟩
set_option maxRecDepth 100000 in
theorem open_sit {r : Reach} {b0 : Nat} {v : Value} {d : DataW H} {p : List MemPlace} (hv : Value.okWide Try.prog w r b0 33 v) (h : DataW.Trod enc Try.prog w base spare held 33 v d p) :
    ∃ (s : St) (fv sv ov kv : Value), v = siV s fv sv ov kv ∧ SiW w s fv sv ov kv := by
  obtain ⟨l, rfl, hsz⟩ := okWide_struct Try.underlying33 hv
  obtain ⟨f, hf⟩ := h
  obtain ⟨s, fv, sv, ov, kv, e, hs⟩ := trod_sit hf
  refine ⟨s, fv, sv, ov, kv, ?_, hs⟩
  obtain ⟨l⟩ := l
  have : l = _ := e
  rw [this]
end
end Go.Proofs.Ytjepnaefkfkpcaa
/- The laws' own helpers of states and deeds: an error's number, a number modulo, whether a state is small. Walked. -/
namespace Go.Proofs.Ytjepnaefkfkpcaa
set_option linter.unusedVariables false
set_option linter.unusedSimpArgs false
set_option maxRecDepth 100000
open Go.RowKit
def smallI (p : Pr) : Int := if p.size ≤ 60 then 1 else 0
def fitsI (s : St) : Int := if 60 < s.store.length ∨ 60 < s.out.length then 0 else smallI s.f * knownI s.k
set_option maxRecDepth 100000 in
set_option maxHeartbeats 4000000 in
theorem fitsS_calls (s : St) (fv sv ov kv : Value) (w : World) (hS : SiW w s fv sv ov kv) :
    Calls Try.prog 6 #[siV s fv sv ov kv] w fun e w' => e = .returned (.int .i64 (fitsI s)) ∧ Below w.heap.size w w' := by
  obtain ⟨o1, c1, rfl⟩ := hS.ls.val
  obtain ⟨o2, c2, rfl⟩ := hS.lo.val
  have OA := Lib.hid (Has.new w (siL s fv (.slice o1 s.store.length c1) (.slice o2 s.out.length c2) kv).toArray 33)
  have BEL := Lib.hid ((Below.refl w.heap.size w).alloc (Nat.le_refl _) (.cells (siL s fv (.slice o1 s.store.length c1) (.slice o2 s.out.length c2) kv).toArray 33))
  have HS := Lib.hid (hS.alloc (.cells (siL s fv (.slice o1 s.store.length c1) (.slice o2 s.out.length c2) kv).toArray 33))
  have C1 := fun w' h => Lib.hid (small_calls s.f fv w' h)
  have C2 := fun w' h => Lib.hid (known_calls s.k kv w' h)
  clear hS
  have l0 := OA.out.cell
  have z0 := OA.out.lt
  unfold fitsI smallI
  by_cases hb : 60 < s.store.length ∨ 60 < s.out.length
  · rw [if_pos hb]
    have hways : decide ((60 : Int) < (s.store.length : Int)) = true ∨ (decide ((60 : Int) < (s.store.length : Int)) = false ∧ decide ((60 : Int) < (s.out.length : Int)) = true) := by
      by_cases h : 60 < s.store.length
      · exact .inl (decide_eq_true (by omega))
      · refine .inr ⟨decide_eq_false (by omega), decide_eq_true ?_⟩
        rcases hb with h' | h'
        · exact absurd h' h
        · omega
    clear hb C1 C2
    rcases hways with g1 | ⟨g1, g2⟩
    all_goals
      go_enter Try.func6, Try.ntmps6
      go_wp2_with fail
      go_ret
      exact ⟨rfl, BEL.out⟩
  · rw [if_neg hb]
    have g1 : decide ((60 : Int) < (s.store.length : Int)) = false := decide_eq_false (by omega)
    have g2 : decide ((60 : Int) < (s.out.length : Int)) = false := decide_eq_false (by omega)
    clear hb
    have hv : Hid (((if s.f.size ≤ 60 then (1 : Int) else 0) = 0 ∨ (if s.f.size ≤ 60 then (1 : Int) else 0) = 1) ∧ (knownI s.k = 0 ∨ knownI s.k = 1)) := Lib.hid ⟨by split <;> simp, by unfold knownI; split <;> simp⟩
    generalize (if s.f.size ≤ 60 then (1 : Int) else 0) = a at *
    generalize knownI s.k = b at *
    have hv2 := hv.out
    clear hv
    rcases hv2 with ⟨rfl | rfl, rfl | rfl⟩
    all_goals
      go_enter Try.func6, Try.ntmps6
      go_upto_region 3 with fail
      have OA2 := Lib.hid OA.out.drew
      have HS2 := Lib.hid HS.out.drew
      have BE2 := Lib.hid BEL.out.drew
      clear l0 z0
      go_region_held3 (fun w' => ∀ o, w'.cell? ⟨w.heap.size, o, none⟩ = (siL s fv (.slice o1 s.store.length c1) (.slice o2 s.out.length c2) kv).toArray[o]?) (first | with_reducible exact OA2.out.cell) (first
        | (go_simp; go_at_call 14; refine (C1 _ HS2.out.lf).out.mono ?_; rintro e w3 ⟨rfl, hb⟩; replace OA2 := Lib.hid (OA2.out.below hb OA2.out.lt); replace HS2 := Lib.hid (HS2.out.later hb); replace BE2 := Lib.hid (BE2.out.trans (hb.mono BE2.out.size)); clear hb)
        | (go_simp; go_at_call 15; refine (C2 _ HS2.out.lk).out.mono ?_; rintro e w4 ⟨rfl, hb⟩; replace OA2 := Lib.hid (OA2.out.below hb OA2.out.lt); replace HS2 := Lib.hid (HS2.out.later hb); replace BE2 := Lib.hid (BE2.out.trans (hb.mono BE2.out.size)); clear hb)
        | fail)
      go_wp2_with fail
      go_ret
      exact ⟨rfl, BE2.out⟩
theorem flat_le : ∀ {l : List Fr}, (∀ x ∈ l, decide (x.ids.length ≤ 60) = true) → (flatI l).length ≤ 60 * l.length
  | [], _ => by simp [flatI]
  | a :: l, h => by
    have h5 := flat_le (l := l) fun x hx => h x (by simp [hx])
    have h6 := of_decide_eq_true (h a (by simp))
    simp only [flatI, List.flatMap_cons, List.length_append, List.length_cons] at *
    omega
theorem fits_is {s : St} (h : fitsI s = 1) : StB s := by
  unfold fitsI smallI knownI at h
  split at h
  · cases h
  · rename_i h1
    split at h
    · split at h
      · rename_i h2 h3
        unfold knownB at h3
        rw [Bool.and_eq_true, decide_eq_true_eq, List.all_eq_true] at h3
        have hk := flat_le h3.2
        have h4 := h3.1
        exact ⟨h2, by omega, by omega, by omega, by omega⟩
      · cases h
    · split at h <;> cases h
theorem may_same {f : Pr} (h : Pr.mayB f = true) : Pr.same f f = true := by
  unfold Pr.mayB Pr.fitsB at h
  rw [Bool.and_eq_true, Bool.and_eq_true] at h
  exact Pr.all_same f h.2.2
end Go.Proofs.Ytjepnaefkfkpcaa
/- A state out of plain data: gallipotlaw00.State. Walked. -/
namespace Go.Proofs.Ytjepnaefkfkpcaa
set_option linter.unusedVariables false
set_option linter.unusedSimpArgs false
set_option maxRecDepth 100000
open Go.RowKit
set_option maxRecDepth 100000 in
set_option maxHeartbeats 8000000 in
theorem state_calls (s : St) (fv sv ov kv : Value) (w : World) (hS : SiW w s fv sv ov kv) (hf : s.f.size ≤ 60) (h1 : s.store.length ≤ 1000) (h2 : s.out.length ≤ 1000) :
    Calls Try.prog 7 #[siV s fv sv ov kv] w fun e w' => ∃ fv' sv' ov', e = .returned (stV s fv' sv' ov' kv) ∧ StW w' s fv' sv' ov' kv ∧ Below w.heap.size w w' := by
  obtain ⟨ok, ck, rfl⟩ := hS.lk.val
  have HK0 := Lib.hid hS.lk
  have OA := Lib.hid ((Own.new w (siL s fv sv ov (.slice ok s.k.l.length ck)).toArray 33).alloc (.cells stZ.toArray 42))
  have OT := Lib.hid (Own.newAt (w.alloc (.cells (siL s fv sv ov (.slice ok s.k.l.length ck)).toArray 33)) stZ.toArray 42 (b := w.heap.size + 1) (by simp))
  have BEL := Lib.hid (((Below.refl w.heap.size w).alloc (Nat.le_refl _) (.cells (siL s fv sv ov (.slice ok s.k.l.length ck)).toArray 33)).alloc (by simp) (.cells stZ.toArray 42))
  have HS := Lib.hid ((hS.alloc (.cells (siL s fv sv ov (.slice ok s.k.l.length ck)).toArray 33)).alloc (.cells stZ.toArray 42))
  have HO1 := Lib.hid hS.ls.oks
  have HO2 := Lib.hid hS.lo.oks
  have hne := Lib.hid (show w.heap.size ≠ w.heap.size + 1 by omega)
  clear hS
  have CP := fun w' h => Lib.hid (conv_calls s.f fv w' h hf)
  have C1 := fun w' h => Lib.hid (items_calls s.store sv w' h (by omega))
  have C2 := fun w' h => Lib.hid (items_calls s.out ov w' h (by omega))
  clear h1 h2
  go_enter Try.func7, Try.ntmps7
  go_wp2_with fail
  replace OA := Lib.hid OA.out.drew
  replace OT := Lib.hid OT.out.drew
  replace BEL := Lib.hid BEL.out.drew
  replace HS := Lib.hid HS.out.drew
  refine wp_region_held_drew (S := fun w' => ∀ o, w'.cell? ⟨w.heap.size, o, none⟩ = (siL s fv sv ov (.slice ok s.k.l.length ck)).toArray[o]?) (by kernel_rfl) (by exact OA.out.cell) (fun hHeld => ?_)
  refine wpAnyH_take (i := 0) (v := ?_) rfl (by kernel_rfl) (by kernel_rfl) (by kernel_rfl) (fun _ _ _ h => h) (Or.inl ⟨by rfl, ?_⟩) (by assumption) ?_
  rotate_left 1
  · (intro w hSw; (try dsimp only at hSw); go_simp; try with_reducible rfl)
  try simp only [Act.put, List.getElem_toArray, List.getElem_cons_zero, List.getElem_cons_succ, List.setIfInBounds_toArray, List.set_cons_zero, List.set_cons_succ]
  refine wpAnyH_take (i := 1) (v := ?_) rfl (by kernel_rfl) (by kernel_rfl) (by kernel_rfl) (fun _ _ _ h => h) (Or.inl ⟨by rfl, ?_⟩) (by assumption) ?_
  rotate_left 1
  · (intro w hSw; (try dsimp only at hSw); go_simp; try with_reducible rfl)
  try simp only [Act.put, List.getElem_toArray, List.getElem_cons_zero, List.getElem_cons_succ, List.setIfInBounds_toArray, List.set_cons_zero, List.set_cons_succ]
  refine wpAnyH_take (i := 2) (v := ?_) rfl (by kernel_rfl) (by kernel_rfl) (by kernel_rfl) (fun _ _ _ h => h) (Or.inl ⟨by rfl, ?_⟩) (by assumption) ?_
  rotate_left 1
  · (intro w hSw; (try dsimp only at hSw); go_simp; try with_reducible rfl)
  try simp only [Act.put, List.getElem_toArray, List.getElem_cons_zero, List.getElem_cons_succ, List.setIfInBounds_toArray, List.set_cons_zero, List.set_cons_succ]
  refine wpAnyH_take (i := 3) (v := ?_) rfl (by kernel_rfl) (by kernel_rfl) (by kernel_rfl) (fun _ _ _ h => h) (Or.inl ⟨by rfl, ?_⟩) (by assumption) ?_
  rotate_left 1
  · (intro w hSw; (try dsimp only at hSw); go_simp; try with_reducible rfl)
  try simp only [Act.put, List.getElem_toArray, List.getElem_cons_zero, List.getElem_cons_succ, List.setIfInBounds_toArray, List.set_cons_zero, List.set_cons_succ]
  refine wpAnyH_take (i := 5) (v := ?_) rfl (by kernel_rfl) (by kernel_rfl) (by kernel_rfl) (fun _ _ _ h => h) (Or.inl ⟨by rfl, ?_⟩) (by assumption) ?_
  rotate_left 1
  · (intro w hSw; (try dsimp only at hSw); go_simp; try with_reducible rfl)
  try simp only [Act.put, List.getElem_toArray, List.getElem_cons_zero, List.getElem_cons_succ, List.setIfInBounds_toArray, List.set_cons_zero, List.set_cons_succ]
  refine wpAnyH_take (i := 6) (v := ?_) rfl (by kernel_rfl) (by kernel_rfl) (by kernel_rfl) (fun _ _ _ h => h) (Or.inl ⟨by rfl, ?_⟩) (by assumption) ?_
  rotate_left 1
  · (intro w hSw; (try dsimp only at hSw); go_simp; try with_reducible rfl)
  try simp only [Act.put, List.getElem_toArray, List.getElem_cons_zero, List.getElem_cons_succ, List.setIfInBounds_toArray, List.set_cons_zero, List.set_cons_succ]
  refine wpAnyH_take (i := 8) (v := ?_) rfl (by kernel_rfl) (by kernel_rfl) (by kernel_rfl) (fun _ _ _ h => h) (Or.inl ⟨by rfl, ?_⟩) (by assumption) ?_
  rotate_left 1
  · (intro w hSw; (try dsimp only at hSw); go_simp; try with_reducible rfl)
  try simp only [Act.put, List.getElem_toArray, List.getElem_cons_zero, List.getElem_cons_succ, List.setIfInBounds_toArray, List.set_cons_zero, List.set_cons_succ]
  refine wpAnyH_take (i := 9) (v := ?_) rfl (by kernel_rfl) (by kernel_rfl) (by kernel_rfl) (fun _ _ _ h => h) (Or.inl ⟨by rfl, ?_⟩) (by assumption) ?_
  rotate_left 1
  · (intro w hSw; (try dsimp only at hSw); go_simp; try with_reducible rfl)
  try simp only [Act.put, List.getElem_toArray, List.getElem_cons_zero, List.getElem_cons_succ, List.setIfInBounds_toArray, List.set_cons_zero, List.set_cons_succ]
  refine wpAnyH_take (i := 11) (v := ?_) rfl (by kernel_rfl) (by kernel_rfl) (by kernel_rfl) (fun _ _ _ h => h) (Or.inl ⟨by rfl, ?_⟩) (by assumption) ?_
  rotate_left 1
  · (intro w hSw; (try dsimp only at hSw); go_simp; try with_reducible rfl)
  try simp only [Act.put, List.getElem_toArray, List.getElem_cons_zero, List.getElem_cons_succ, List.setIfInBounds_toArray, List.set_cons_zero, List.set_cons_succ]
  refine wpAnyH_take (i := 12) (v := ?_) rfl (by kernel_rfl) (by kernel_rfl) (by kernel_rfl) (fun _ _ _ h => h) (Or.inl ⟨by rfl, ?_⟩) (by assumption) ?_
  rotate_left 1
  · (intro w hSw; (try dsimp only at hSw); go_simp; try with_reducible rfl)
  try simp only [Act.put, List.getElem_toArray, List.getElem_cons_zero, List.getElem_cons_succ, List.setIfInBounds_toArray, List.set_cons_zero, List.set_cons_succ]
  refine wpAnyH_take (i := 13) (v := ?_) rfl (by kernel_rfl) (by kernel_rfl) (by kernel_rfl) (fun _ _ _ h => h) (Or.inl ⟨by rfl, ?_⟩) (by assumption) ?_
  rotate_left 1
  · (intro w hSw; (try dsimp only at hSw); go_simp; try with_reducible rfl)
  try simp only [Act.put, List.getElem_toArray, List.getElem_cons_zero, List.getElem_cons_succ, List.setIfInBounds_toArray, List.set_cons_zero, List.set_cons_succ]
  refine wpAnyH_take (i := 14) (v := ?_) rfl (by kernel_rfl) (by kernel_rfl) (by kernel_rfl) (fun _ _ _ h => h) (Or.inl ⟨by rfl, ?_⟩) (by assumption) ?_
  rotate_left 1
  · (intro w hSw; (try dsimp only at hSw); go_simp; try with_reducible rfl)
  try simp only [Act.put, List.getElem_toArray, List.getElem_cons_zero, List.getElem_cons_succ, List.setIfInBounds_toArray, List.set_cons_zero, List.set_cons_succ]
  refine wpAnyH_take (i := 15) (v := ?_) rfl (by kernel_rfl) (by kernel_rfl) (by kernel_rfl) (fun _ _ _ h => h) (Or.inl ⟨by rfl, ?_⟩) (by assumption) ?_
  rotate_left 1
  · (intro w hSw; (try dsimp only at hSw); go_simp; try with_reducible rfl)
  try simp only [Act.put, List.getElem_toArray, List.getElem_cons_zero, List.getElem_cons_succ, List.setIfInBounds_toArray, List.set_cons_zero, List.set_cons_succ]
  refine wpAnyH_take (i := 16) (v := ?_) rfl (by kernel_rfl) (by kernel_rfl) (by kernel_rfl) (fun _ _ _ h => h) (Or.inl ⟨by rfl, ?_⟩) (by assumption) ?_
  rotate_left 1
  · (intro w hSw; (try dsimp only at hSw); go_simp; try with_reducible rfl)
  try simp only [Act.put, List.getElem_toArray, List.getElem_cons_zero, List.getElem_cons_succ, List.setIfInBounds_toArray, List.set_cons_zero, List.set_cons_succ]
  refine wpAnyH_take (i := 17) (v := ?_) rfl (by kernel_rfl) (by kernel_rfl) (by kernel_rfl) (fun _ _ _ h => h) (Or.inl ⟨by rfl, ?_⟩) (by assumption) ?_
  rotate_left 1
  · (intro w hSw; (try dsimp only at hSw); go_simp; try with_reducible rfl)
  try simp only [Act.put, List.getElem_toArray, List.getElem_cons_zero, List.getElem_cons_succ, List.setIfInBounds_toArray, List.set_cons_zero, List.set_cons_succ]
  refine wpAnyH_take (i := 18) (v := ?_) rfl (by kernel_rfl) (by kernel_rfl) (by kernel_rfl) (fun _ _ _ h => h) (Or.inl ⟨by rfl, ?_⟩) (by assumption) ?_
  rotate_left 1
  · (intro w hSw; (try dsimp only at hSw); go_simp; try with_reducible rfl)
  try simp only [Act.put, List.getElem_toArray, List.getElem_cons_zero, List.getElem_cons_succ, List.setIfInBounds_toArray, List.set_cons_zero, List.set_cons_succ]
  refine wpAnyH_ready (rs := [4]) (by kernel_rfl) (by simp) ?_
  refine AllReadyH.cons rfl (fun K hK => ?_) AllReadyH.nil
  try simp only [List.getElem_toArray, List.getElem_cons_zero, List.getElem_cons_succ]
  (go_simp; go_at_call 16; refine (CP _ HS.out.lf).out.mono ?_; rintro e w3 ⟨v3, rfl, hl3, hb⟩; obtain ⟨o3, c3, _, _, _, rfl, _, _, _, _, _, _⟩ := lies_slice hl3; have z3 := Lib.hid (show w.heap.size + 1 + 1 ≤ _ from OT.out.lt); have L3 := Lib.hid hl3; have B3 := Lib.hid (Below.refl w3.heap.size w3); replace OA := Lib.hid (OA.out.later hb); replace OT := Lib.hid (OT.out.later hb); replace BEL := Lib.hid (BEL.out.trans (hb.mono BEL.out.size)); replace HS := Lib.hid (HS.out.later hb); clear hl3 hb)
  try go_wp2_with fail
  refine hK.out _ _ (by exact OA.out.cell) (fun hHeld => ?_)
  clear hK K
  try simp only [Act.put, List.getElem_toArray, List.getElem_cons_zero, List.getElem_cons_succ, List.setIfInBounds_toArray, List.set_cons_zero, List.set_cons_succ]
  refine wpAnyH_ready (rs := [7]) (by kernel_rfl) (by simp) ?_
  refine AllReadyH.cons rfl (fun K hK => ?_) AllReadyH.nil
  try simp only [List.getElem_toArray, List.getElem_cons_zero, List.getElem_cons_succ]
  (go_simp; go_at_call 17; refine (C1 _ HS.out.ls).out.mono ?_; rintro e w4 ⟨v4, rfl, ho4, hb⟩; obtain ⟨o4, c4, rfl⟩ := ho4.len; have R4 := Lib.hid ((OwnI.rowF ho4 HO1.out).mono (B' := w.heap.size + 1 + 1) (by have := OT.out.lt; omega)); replace B3 := Lib.hid (B3.out.trans hb); replace OA := Lib.hid (OA.out.later hb); replace OT := Lib.hid (OT.out.later hb); replace BEL := Lib.hid (BEL.out.trans (hb.mono BEL.out.size)); replace HS := Lib.hid (HS.out.later hb); clear ho4 hb)
  try go_wp2_with fail
  refine hK.out _ _ (by exact OA.out.cell) (fun hHeld => ?_)
  clear hK K
  try simp only [Act.put, List.getElem_toArray, List.getElem_cons_zero, List.getElem_cons_succ, List.setIfInBounds_toArray, List.set_cons_zero, List.set_cons_succ]
  refine wpAnyH_ready (rs := [10]) (by kernel_rfl) (by simp) ?_
  refine AllReadyH.cons rfl (fun K hK => ?_) AllReadyH.nil
  try simp only [List.getElem_toArray, List.getElem_cons_zero, List.getElem_cons_succ]
  (go_simp; go_at_call 17; refine (C2 _ HS.out.lo).out.mono ?_; rintro e w5 ⟨v5, rfl, ho5, hb⟩; obtain ⟨o5, c5, rfl⟩ := ho5.len; have R5 := Lib.hid ((OwnI.rowF ho5 HO2.out).mono (B' := w.heap.size + 1 + 1) (by have := OT.out.lt; omega)); replace R4 := Lib.hid (R4.out.later hb); replace B3 := Lib.hid (B3.out.trans (hb.mono B3.out.size)); replace OA := Lib.hid (OA.out.later hb); replace OT := Lib.hid (OT.out.later hb); replace BEL := Lib.hid (BEL.out.trans (hb.mono BEL.out.size)); replace HS := Lib.hid (HS.out.later hb); clear ho5 hb)
  try go_wp2_with fail
  refine hK.out _ _ (by exact OA.out.cell) (fun hHeld => ?_)
  clear hK K
  try simp only [Act.put, List.getElem_toArray, List.getElem_cons_zero, List.getElem_cons_succ, List.setIfInBounds_toArray, List.set_cons_zero, List.set_cons_succ]
  refine wpAnyH_take (i := 19) (v := ?_) rfl (by kernel_rfl) (by kernel_rfl) (by kernel_rfl) (fun _ _ _ h => h) (Or.inl ⟨by rfl, ?_⟩) (by assumption) ?_
  rotate_left 1
  · (intro w hSw; (try dsimp only at hSw); go_simp; try with_reducible rfl)
  try simp only [Act.put, List.getElem_toArray, List.getElem_cons_zero, List.getElem_cons_succ, List.setIfInBounds_toArray, List.set_cons_zero, List.set_cons_succ]
  refine wpAnyH_ready (rs := [20]) (by kernel_rfl) (by simp) ?_
  refine AllReadyH.cons rfl (fun K hK => ?_) AllReadyH.nil
  try simp only [List.getElem_toArray, List.getElem_cons_zero, List.getElem_cons_succ]
  first | rw [if_pos (by rfl)] | skip
  have HV := Lib.hid (And.intro (OT.out.sets (stA s (.slice o3 s.f.kids.length c3) (.slice o4 s.store.length c4) (.slice o5 s.out.length c5) (.slice ok s.k.l.length ck)).toList (by rfl)) (And.intro (below_sets (b := w.heap.size + 1) (by omega) (stA s (.slice o3 s.f.kids.length c3) (.slice o4 s.store.length c4) (.slice o5 s.out.length c5) (.slice ok s.k.l.length ck)).toList 0 BEL.out) (And.intro (R4.out.sets (b := w.heap.size + 1) (by omega) (stA s (.slice o3 s.f.kids.length c3) (.slice o4 s.store.length c4) (.slice o5 s.out.length c5) (.slice ok s.k.l.length ck)).toList 0) (And.intro (R5.out.sets (b := w.heap.size + 1) (by omega) (stA s (.slice o3 s.f.kids.length c3) (.slice o4 s.store.length c4) (.slice o5 s.out.length c5) (.slice ok s.k.l.length ck)).toList 0) (OA.out.setsFar (stA s (.slice o3 s.f.kids.length c3) (.slice o4 s.store.length c4) (.slice o5 s.out.length c5) (.slice ok s.k.l.length ck)).toList 0 hne.out)))))
  refine wp_store_mid 42 _ _ rfl (w.heap.size + 1) 0 (stA s (.slice o3 s.f.kids.length c3) (.slice o4 s.store.length c4) (.slice o5 s.out.length c5) (.slice ok s.k.l.length ck)) (by rfl) (by rfl) (OT.out.there (by rfl)) (by kernel_rfl) (by simp [Value.oneCell']) ?_
  refine hK.out _ _ (by exact HV.out.2.2.2.2.cell) (fun hHeld => ?_)
  clear hK K
  try simp only [Act.put, List.getElem_toArray, List.getElem_cons_zero, List.getElem_cons_succ, List.setIfInBounds_toArray, List.set_cons_zero, List.set_cons_succ]
  refine wpAnyH_done (by kernel_rfl) ?_ _
  have HV2 := Lib.hid (fun (b o : Nat) (hb : b ≠ w.heap.size + 1) => World.cell?_setCells_out (w.heap.size + 1) (stA s (.slice o3 s.f.kids.length c3) (.slice o4 s.store.length c4) (.slice o5 s.out.length c5) (.slice ok s.k.l.length ck)).toList 0 w5 ⟨b, o, none⟩ (fun h _ => absurd h hb))
  have HV3 := (Lib.hid (below_sets (B := w.heap.size + 1) (b := w.heap.size + 1) (Nat.le_refl _) (stA s (.slice o3 s.f.kids.length c3) (.slice o4 s.store.length c4) (.slice o5 s.out.length c5) (.slice ok s.k.l.length ck)).toList 0 (Below.refl (w.heap.size + 1) w5))).out.size
  clear OA OT BEL HS R4 R5
  go_wp2_with fail
  revert HV HV2 HV3
  generalize World.setCells _ _ _ _ = WW
  intro HV HV2 HV3
  refine ret_cell (by rfl) (by rfl) (l := (stA s (.slice o3 s.f.kids.length c3) (.slice o4 s.store.length c4) (.slice o5 s.out.length c5) (.slice ok s.k.l.length ck)).toList) HV.out.1.range Try.underlying42 (by rfl) (by kernel_rfl) rfl ⟨_, _, _, rfl, ⟨L3.out.mono (fun b o h => ?_) (fun b h => ?_), HV.out.2.2.1.row, HV.out.2.2.2.1.row, HK0.out.later HV.out.2.1 (Nat.le_refl _)⟩, HV.out.2.1⟩
  · have z := z3.out
    rw [HV2.out b o (by have := h.1; omega)]
    exact B3.out.cell (p := ⟨b, o, none⟩) h.2
  · exact Nat.lt_of_lt_of_le h.2 (Nat.le_trans B3.out.size HV3)
end Go.Proofs.Ytjepnaefkfkpcaa
/- What is known: the document's Own, walked. -/
namespace Go.Proofs.Ytjepnaefkfkpcaa
set_option linter.unusedVariables false
set_option linter.unusedSimpArgs false
set_option maxRecDepth 100000
open Go.RowKit
structure OwS (w : World) (X Y Z : Array Value) (W : World) : Prop where
  o1 : Own W w.heap.size X 31
  o2 : Own W (w.heap.size + 1) Y 62
  o3 : Own W (w.heap.size + 1 + 1) Z 31
  be : Below w.heap.size w W
theorem OwS.later {w W W' : World} {X Y Z : Array Value} (h : OwS w X Y Z W) (hb : Below W.heap.size W W') : OwS w X Y Z W' :=
  ⟨h.o1.later hb, h.o2.later hb, h.o3.later hb, h.be.trans (hb.mono h.be.size)⟩
end Go.Proofs.Ytjepnaefkfkpcaa
