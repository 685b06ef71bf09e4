/- Joined: KCodeB, KCodeD, OpenSt, LocH, LocS. -/
import Derived.Test.YthbjgfennclidaaGreatJ29
import Derived.Test.YthbjgfennclidaaGreatJ24
import Derived.Test.YthbjgfennclidaaGreatJ02
import Derived.Deep.RegionHeld3
import Derived.Deep.RegionLaw
import Derived.Test.YthbjgfennclidaaGreatJ20
import Derived.Test.YthbjgfennclidaaGreatJ19
import Derived.Test.YthbjgfennclidaaGreatJ22
import Derived.Test.YthbjgfennclidaaGreatJ21
import Derived.Test.YthbjgfennclidaaGreatJ04
import Derived.Test.YthbjgfennclidaaGreatJ12
import Derived.Test.YthbjgfennclidaaGreatJ28
/- The code's With of what is known, walked. -/
namespace Go.Proofs.YthbjgfennclidaaGreat
set_option linter.unusedVariables false
set_option linter.unusedSimpArgs false
set_option maxRecDepth 100000
open Go.RowKit
end Go.Proofs.YthbjgfennclidaaGreat
/- The code's Same, May and Join of what is known, walked. -/
namespace Go.Proofs.YthbjgfennclidaaGreat
set_option linter.unusedVariables false
set_option linter.unusedSimpArgs false
set_option maxRecDepth 100000
open Go.RowKit
/-! ### Same -/
/-! ### May -/
theorem not_odd (l : List Fr) : (!(l.any oddB)) = l.all (mayFr nameB) := by
  rw [List.not_any_eq_all_not]
  congr 1
  funext f
  unfold oddB mayFr
  rw [Bool.not_or, Bool.not_not, List.not_any_eq_all_not]
  congr 1
  congr 1
  funext s
  rw [Bool.not_not]
set_option maxRecDepth 100000 in
set_option maxHeartbeats 4000000 in
theorem knowMay_calls (nm : ByteArray → Bool) (hnm : nm = nameB) (a : Kn) (v : Value) (w : World) (hR : FrW w a.l v) (hl1 : (flatI a.l).length ≤ 10000) :
    Calls Tryz.prog 45 #[knV a.star v] w fun e w' => e = .returned (.bool (mayK nm a)) ∧ Below w.heap.size w w' := by
  subst hnm
  obtain ⟨ov, cv, rfl⟩ := hR.val
  have OA := Lib.hid (Own.newAt w (knA a.star (.slice ov a.l.length cv)) 31 (b := w.heap.size) (by first | rfl | simp)).has
  have BEL := Lib.hid ((Below.refl w.heap.size w).alloc (by first | exact Nat.le_refl _ | (simp; omega) | simp) (.cells (knA a.star (.slice ov a.l.length cv)) 31))
  have LA := Lib.hid (hR.later BEL.out (Nat.le_refl _))
  have PA := fun w' h => Lib.hid (codePlain_calls a (.slice ov a.l.length cv) w' h hl1)
  have EQ := fun va vb w' h h' => Lib.hid (show Calls Tryz.prog 98 #[knV a.star va, knV a.star vb] w' (fun e w'' => e = .returned (.bool (alikeK a (plainB a))) ∧ Below w'.heap.size w' w'') from kEqual_calls a (plainB a) va vb w' h h')
  have MV := fun w' => Lib.hid (vecMay_calls a.star w')
  have CD := fun w' h => Lib.hid (containsD_calls oddB a.l (.slice ov a.l.length cv) w' h fun w' hb k f u hf hu => odd_calls f u w' hu)
  have e : mayK nameB a = ((mayV a.star && !(a.l.any oddB)) && alikeK a (plainB a)) := by
    unfold mayK
    rw [not_odd]
    cases mayV a.star <;> cases alikeK a (plainB a) <;> cases a.l.all (mayFr nameB) <;> rfl
  rw [e]
  clear e hR hl1
  generalize alikeK a (plainB a) = al at *
  generalize (plainB a).l = ra at *
  generalize a.l.length = len at *
  generalize a.l.any oddB = od at *
  cases hm : mayV a.star
  · rw [hm] at MV
    go_enter Tryz.func45, Tryz.ntmps45
    go_wp2_with fail
    replace OA := Lib.hid (OA.out.drew)
    replace BEL := Lib.hid (BEL.out.drew)
    have l1 := OA.out.cell
    have z1 := OA.out.lt
    first | (go_region_law (first
        | (go_simp; go_at_call 95; refine (MV _).out.mono ?_; rintro e wa ⟨rfl, hb⟩; have BELa := Lib.hid (BEL.out.trans (hb.mono BEL.out.size)); clear hb)
        | fail)) | fail
    all_goals
      go_wp2_with fail
      go_ret
      exact ⟨rfl, BELa.out⟩
  · rw [hm] at MV
    cases hod : od
    · subst hod
      go_enter Tryz.func45, Tryz.ntmps45
      go_wp2_with fail
      replace OA := Lib.hid (OA.out.drew)
      replace LA := Lib.hid (LA.out.later (Below.refl _ _).drew (Nat.le_refl _))
      replace BEL := Lib.hid (BEL.out.drew)
      first | (go_region_held3 (fun w' => ∀ o, w'.cell? ⟨w.heap.size, o, none⟩ = (knA a.star (.slice ov len cv))[o]?) (exact OA.out.cell) (first
          | (go_simp; go_at_call 95; refine (MV _).out.mono ?_; rintro e wa ⟨rfl, hb⟩; replace OA := Lib.hid (OA.out.below hb OA.out.lt); replace LA := Lib.hid (LA.out.later hb (Nat.le_refl _)); replace BEL := Lib.hid (BEL.out.trans (hb.mono BEL.out.size)); clear hb)
          | (go_simp; go_at_call 96; refine (CD _ LA.out).out.mono ?_; rintro e wb ⟨rfl, hb⟩; replace OA := Lib.hid (OA.out.below hb OA.out.lt); replace LA := Lib.hid (LA.out.later hb (Nat.le_refl _)); replace BEL := Lib.hid (BEL.out.trans (hb.mono BEL.out.size)); clear hb)
          | (go_simp; go_at_call 99; refine (PA _ LA.out).out.mono ?_; rintro e wc ⟨va, rfl, hfa, hb⟩; obtain ⟨oa, ca, rfl⟩ := hfa.fr.val; have FA := Lib.hid hfa.fr; replace OA := Lib.hid (OA.out.below hb OA.out.lt); replace LA := Lib.hid (LA.out.later hb (Nat.le_refl _)); replace BEL := Lib.hid (BEL.out.trans (hb.mono BEL.out.size)); clear hb hfa)
          | (go_simp; go_at_call 98; refine (EQ _ _ _ LA.out FA.out).out.mono ?_; rintro e wd ⟨rfl, hb⟩; replace OA := Lib.hid (OA.out.below hb OA.out.lt); replace BEL := Lib.hid (BEL.out.trans (hb.mono BEL.out.size)); clear hb)
          | fail)) | fail
      all_goals
        go_wp2_with fail
        go_ret
        exact ⟨rfl, BEL.out⟩
    · subst hod
      go_enter Tryz.func45, Tryz.ntmps45
      go_wp2_with fail
      replace OA := Lib.hid (OA.out.drew)
      replace LA := Lib.hid (LA.out.later (Below.refl _ _).drew (Nat.le_refl _))
      replace BEL := Lib.hid (BEL.out.drew)
      have l1 := OA.out.cell
      have z1 := OA.out.lt
      first | (go_region_law (first
          | (go_simp; go_at_call 95; refine (MV _).out.mono ?_; rintro e wa ⟨rfl, hb⟩; have OAa := Lib.hid (OA.out.below hb OA.out.lt); have LAa := Lib.hid (LA.out.later hb (Nat.le_refl _)); have BELa := Lib.hid (BEL.out.trans (hb.mono BEL.out.size)); have la := OAa.out.cell; have za := OAa.out.lt; clear hb)
          | (go_simp; go_at_call 96; refine (CD _ LAa.out).out.mono ?_; rintro e wb ⟨rfl, hb⟩; have BELb := Lib.hid (BELa.out.trans (hb.mono BELa.out.size)); clear hb)
          | fail)) | fail
      all_goals
        go_wp2_with fail
        go_ret
        exact ⟨rfl, BELb.out⟩
end Go.Proofs.YthbjgfennclidaaGreat
/- What the arguments of the laws read as: states, deeds. -/
namespace Go.Proofs.YthbjgfennclidaaGreat
set_option linter.unusedVariables false
set_option linter.unusedSimpArgs false
set_option maxRecDepth 100000
open Go.ChangeShapes Go.WideShapes Go.ChangeAt Go.RowKit Go.Deep
abbrev siL (s : St) (fv sv ov kv : Value) : List Value := [.int .i64 s.r, .int .i64 s.f.op, .string s.f.text, .int .i64 s.f.n, .float .f64 s.f.x, .float .f64 s.f.y, fv, sv, ov, .int .i64 (s.k.star 0), .int .i64 (s.k.star 1), .int .i64 (s.k.star 2), .int .i64 (s.k.star 3), .int .i64 (s.k.star 4), .int .i64 (s.k.star 5), .int .i64 (s.k.star 6), .int .i64 (s.k.star 7), kv, .int .i64 s.count, .int .i64 s.clock, .int .i64 s.epoch]
abbrev siV (s : St) (fv sv ov kv : Value) : Value := .agg #[.int .i64 s.r, .int .i64 s.f.op, .string s.f.text, .int .i64 s.f.n, .float .f64 s.f.x, .float .f64 s.f.y, fv, sv, ov, .int .i64 (s.k.star 0), .int .i64 (s.k.star 1), .int .i64 (s.k.star 2), .int .i64 (s.k.star 3), .int .i64 (s.k.star 4), .int .i64 (s.k.star 5), .int .i64 (s.k.star 6), .int .i64 (s.k.star 7), kv, .int .i64 s.count, .int .i64 s.clock, .int .i64 s.epoch]
structure SiW (w : World) (s : St) (fv sv ov kv : Value) : Prop where
  lf : LT w s.f fv
  ls : Row 9 rc w s.store sv
  lo : Row 9 rc w s.out ov
  lk : FrW w s.k.l kv
theorem SiW.later {w w' : World} {s : St} {fv sv ov kv : Value} (h : SiW w s fv sv ov kv) (hb : Below w.heap.size w w') : SiW w' s fv sv ov kv :=
  ⟨h.lf.later hb (Nat.le_refl _), h.ls.later hb, h.lo.later hb, h.lk.later hb (Nat.le_refl _)⟩
theorem SiW.alloc {w : World} {s : St} {fv sv ov kv : Value} (h : SiW w s fv sv ov kv) (o : Obj) : SiW (w.alloc o) s fv sv ov kv := h.later ((Below.refl _ _).alloc (Nat.le_refl _) _)
theorem SiW.drew {w : World} {s : St} {fv sv ov kv : Value} (h : SiW w s fv sv ov kv) : SiW w.drew s fv sv ov kv := h.later (Below.refl _ _).drew
structure De where
  what : Int
  id : ByteArray
  kd : ByteArray
  num : Int
  x : Nat
  y : Nat
  f : Pr
structure DeW (w : World) (d : De) (fv : Value) : Prop where
  lf : LT w d.f fv
  id : d.id.size ≤ maxLen
  kd : d.kd.size ≤ maxLen
  what : -9223372036854775808 ≤ d.what ∧ d.what ≤ 9223372036854775807
theorem DeW.later {w w' : World} {d : De} {fv : Value} (h : DeW w d fv) (hb : Below w.heap.size w w') : DeW w' d fv := ⟨h.lf.later hb (Nat.le_refl _), h.id, h.kd, h.what⟩
section
variable {H : Type} {enc : TypeId × Value → H} {w : World} {base : Nat} {spare : Nat → Bool} {held : Bool} {fuel : Nat} {cs : List Value} {x : DataW H × List MemPlace}
set_option maxRecDepth 100000 in
theorem trod_know (h : DataW.trod enc Tryz.prog w base spare held fuel 31 cs = some x) : ∃ (K : Kn) (u : Value), cs = [.int .i64 (K.star 0), .int .i64 (K.star 1), .int .i64 (K.star 2), .int .i64 (K.star 3), .int .i64 (K.star 4), .int .i64 (K.star 5), .int .i64 (K.star 6), .int .i64 (K.star 7), u] ∧ FrW w K.l u := by
  obtain ⟨xs, n, hn, hx, hl, hxl, hf⟩ := DataW.trod_struct Tryz.underlying31 h
  have hl' : cs.length = 9 := hl.trans (by kernel_rfl)
  have hxl' : xs.length = 2 := hxl.trans (by kernel_rfl)
  have h0 : DataW.trod enc Tryz.prog w base spare held n 28 ((cs.drop 0).take (Tryz.prog.cellsOf 28)) = xs[0]? := hf 0 _ rfl
  have h1 : DataW.trod enc Tryz.prog w base spare held n 29 ((cs.drop 8).take (Tryz.prog.cellsOf 29)) = xs[1]? := hf 1 _ rfl
  rw [show Tryz.prog.cellsOf 28 = 8 by kernel_rfl, List.getElem?_eq_getElem (by omega)] at h0
  rw [show Tryz.prog.cellsOf 29 = 1 by kernel_rfl, List.getElem?_eq_getElem (by omega)] at h1
  match cs, hl' with
  | [c0, c1, c2, c3, c4, c5, c6, c7, c8], _ =>
    obtain ⟨A, e'⟩ := trod_vec h0
    obtain ⟨l, u, e, ht⟩ := trod_frags h1
    simp at e e'
    obtain ⟨e1, e2, e3, e4, e5, e6, e7, e8⟩ := e'
    subst e e1 e2 e3 e4 e5 e6 e7 e8
    exact ⟨⟨A, l⟩, _, rfl, ht⟩
set_option maxRecDepth 100000 in
set_option maxHeartbeats 1000000 in
theorem trod_sit (h : DataW.trod enc Tryz.prog w base spare held fuel 33 cs = some x) : ∃ (s : St) (fv sv ov kv : Value), cs = siL s fv sv ov kv ∧ SiW w s fv sv ov kv := by
  obtain ⟨xs, n, hn, hx, hl, hxl, hf⟩ := DataW.trod_struct Tryz.underlying33 h
  have hl' : cs.length = 21 := hl.trans (by kernel_rfl)
  have hxl' : xs.length = 8 := hxl.trans (by kernel_rfl)
  have g0 : DataW.trod enc Tryz.prog w base spare held n 3 ((cs.drop 0).take (Tryz.prog.cellsOf 3)) = xs[0]? := hf 0 _ rfl
  have g1 : DataW.trod enc Tryz.prog w base spare held n 25 ((cs.drop 1).take (Tryz.prog.cellsOf 25)) = xs[1]? := hf 1 _ rfl
  have g2 : DataW.trod enc Tryz.prog w base spare held n 26 ((cs.drop 7).take (Tryz.prog.cellsOf 26)) = xs[2]? := hf 2 _ rfl
  have g3 : DataW.trod enc Tryz.prog w base spare held n 26 ((cs.drop 8).take (Tryz.prog.cellsOf 26)) = xs[3]? := hf 3 _ rfl
  have g4 : DataW.trod enc Tryz.prog w base spare held n 31 ((cs.drop 9).take (Tryz.prog.cellsOf 31)) = xs[4]? := hf 4 _ rfl
  have g5 : DataW.trod enc Tryz.prog w base spare held n 3 ((cs.drop 18).take (Tryz.prog.cellsOf 3)) = xs[5]? := hf 5 _ rfl
  have g6 : DataW.trod enc Tryz.prog w base spare held n 3 ((cs.drop 19).take (Tryz.prog.cellsOf 3)) = xs[6]? := hf 6 _ rfl
  have g7 : DataW.trod enc Tryz.prog w base spare held n 3 ((cs.drop 20).take (Tryz.prog.cellsOf 3)) = xs[7]? := hf 7 _ rfl
  rw [show Tryz.prog.cellsOf 3 = 1 by kernel_rfl, List.getElem?_eq_getElem (by omega)] at g0 g5 g6 g7
  rw [show Tryz.prog.cellsOf 25 = 6 by kernel_rfl, List.getElem?_eq_getElem (by omega)] at g1
  rw [show Tryz.prog.cellsOf 26 = 1 by kernel_rfl, List.getElem?_eq_getElem (by omega)] at g2 g3
  rw [show Tryz.prog.cellsOf 31 = 9 by kernel_rfl, List.getElem?_eq_getElem (by omega)] at g4
  match cs, hl' with
  | [c0, c1, c2, c3, c4, c5, c6, c7, c8, c9, c10, c11, c12, c13, c14, c15, c16, c17, c18, c19, c20], _ =>
    obtain ⟨z0, k0, _⟩ := DataW.trod_int Tryz.underlying3 g0
    obtain ⟨q, kq, k1, hq⟩ := trod_tree n _ _ g1
    obtain ⟨l2, v2, k2, r2⟩ := trod_rows g2
    obtain ⟨l3, v3, k3, r3⟩ := trod_rows g3
    obtain ⟨K, ku, k4, r4⟩ := trod_know g4
    obtain ⟨z5, k5, _⟩ := DataW.trod_int Tryz.underlying3 g5
    obtain ⟨z6, k6, _⟩ := DataW.trod_int Tryz.underlying3 g6
    obtain ⟨z7, k7, _⟩ := DataW.trod_int Tryz.underlying3 g7
    simp [tc] at k0 k1 k2 k3 k4 k5 k6 k7
    obtain ⟨a1, a2, a3, a4, a5, a6⟩ := k1
    obtain ⟨b1, b2, b3, b4, b5, b6, b7, b8, b9⟩ := k4
    subst k0 a1 a2 a3 a4 a5 a6 k2 k3 b1 b2 b3 b4 b5 b6 b7 b8 b9 k5 k6 k7
    exact ⟨⟨z0, q, l2, l3, K, z5, z6, z7⟩, _, _, _, _, rfl, hq, r2, r3, r4⟩
set_option maxRecDepth 100000 in
theorem open_sit {r : Reach} {b0 : Nat} {v : Value} {d : DataW H} {p : List MemPlace} (hv : Value.okWide Tryz.prog w r b0 33 v) (h : DataW.Trod enc Tryz.prog w base spare held 33 v d p) :
    ∃ (s : St) (fv sv ov kv : Value), v = siV s fv sv ov kv ∧ SiW w s fv sv ov kv := by
  obtain ⟨l, rfl, hsz⟩ := okWide_struct Tryz.underlying33 hv
  obtain ⟨f, hf⟩ := h
  obtain ⟨s, fv, sv, ov, kv, e, hs⟩ := trod_sit hf
  refine ⟨s, fv, sv, ov, kv, ?_, hs⟩
  obtain ⟨l⟩ := l
  have : l = _ := e
  rw [this]
end
end Go.Proofs.YthbjgfennclidaaGreat
/- The laws' own helpers of states and deeds: an error's number, a number modulo, whether a state is small. Walked. -/
namespace Go.Proofs.YthbjgfennclidaaGreat
set_option linter.unusedVariables false
set_option linter.unusedSimpArgs false
set_option maxRecDepth 100000
open Go.RowKit
def smallI (p : Pr) : Int := if p.size ≤ 60 then 1 else 0
def fitsI (s : St) : Int := if 60 < s.store.length ∨ 60 < s.out.length then 0 else smallI s.f * knownI s.k
set_option maxRecDepth 100000 in
set_option maxHeartbeats 4000000 in
theorem fitsS_calls (s : St) (fv sv ov kv : Value) (w : World) (hS : SiW w s fv sv ov kv) :
    Calls Tryz.prog 9 #[siV s fv sv ov kv] w fun e w' => e = .returned (.int .i64 (fitsI s)) ∧ Below w.heap.size w w' := by
  obtain ⟨o1, c1, rfl⟩ := hS.ls.val
  obtain ⟨o2, c2, rfl⟩ := hS.lo.val
  have OA := Lib.hid (Has.new w (siL s fv (.slice o1 s.store.length c1) (.slice o2 s.out.length c2) kv).toArray 33)
  have BEL := Lib.hid ((Below.refl w.heap.size w).alloc (Nat.le_refl _) (.cells (siL s fv (.slice o1 s.store.length c1) (.slice o2 s.out.length c2) kv).toArray 33))
  have HS := Lib.hid (hS.alloc (.cells (siL s fv (.slice o1 s.store.length c1) (.slice o2 s.out.length c2) kv).toArray 33))
  have C1 := fun w' h => Lib.hid (small_calls s.f fv w' h)
  have C2 := fun w' h => Lib.hid (known_calls s.k kv w' h)
  clear hS
  have l0 := OA.out.cell
  have z0 := OA.out.lt
  unfold fitsI smallI
  by_cases hb : 60 < s.store.length ∨ 60 < s.out.length
  · rw [if_pos hb]
    have hways : decide ((60 : Int) < (s.store.length : Int)) = true ∨ (decide ((60 : Int) < (s.store.length : Int)) = false ∧ decide ((60 : Int) < (s.out.length : Int)) = true) := by
      by_cases h : 60 < s.store.length
      · exact .inl (decide_eq_true (by omega))
      · refine .inr ⟨decide_eq_false (by omega), decide_eq_true ?_⟩
        rcases hb with h' | h'
        · exact absurd h' h
        · omega
    clear hb C1 C2
    rcases hways with g1 | ⟨g1, g2⟩
    all_goals
      go_enter Tryz.func9, Tryz.ntmps9
      go_wp2_with fail
      go_ret
      exact ⟨rfl, BEL.out⟩
  · rw [if_neg hb]
    have g1 : decide ((60 : Int) < (s.store.length : Int)) = false := decide_eq_false (by omega)
    have g2 : decide ((60 : Int) < (s.out.length : Int)) = false := decide_eq_false (by omega)
    clear hb
    have hv : Hid (((if s.f.size ≤ 60 then (1 : Int) else 0) = 0 ∨ (if s.f.size ≤ 60 then (1 : Int) else 0) = 1) ∧ (knownI s.k = 0 ∨ knownI s.k = 1)) := Lib.hid ⟨by split <;> simp, by unfold knownI; split <;> simp⟩
    generalize (if s.f.size ≤ 60 then (1 : Int) else 0) = a at *
    generalize knownI s.k = b at *
    have hv2 := hv.out
    clear hv
    rcases hv2 with ⟨rfl | rfl, rfl | rfl⟩
    all_goals
      go_enter Tryz.func9, Tryz.ntmps9
      go_upto_region 3 with fail
      have OA2 := Lib.hid OA.out.drew
      have HS2 := Lib.hid HS.out.drew
      have BE2 := Lib.hid BEL.out.drew
      clear l0 z0
      go_region_held3 (fun w' => ∀ o, w'.cell? ⟨w.heap.size, o, none⟩ = (siL s fv (.slice o1 s.store.length c1) (.slice o2 s.out.length c2) kv).toArray[o]?) (first | with_reducible exact OA2.out.cell) (first
        | (go_simp; go_at_call 38; refine (C1 _ HS2.out.lf).out.mono ?_; rintro e w3 ⟨rfl, hb⟩; replace OA2 := Lib.hid (OA2.out.below hb OA2.out.lt); replace HS2 := Lib.hid (HS2.out.later hb); replace BE2 := Lib.hid (BE2.out.trans (hb.mono BE2.out.size)); clear hb)
        | (go_simp; go_at_call 25; refine (C2 _ HS2.out.lk).out.mono ?_; rintro e w4 ⟨rfl, hb⟩; replace OA2 := Lib.hid (OA2.out.below hb OA2.out.lt); replace HS2 := Lib.hid (HS2.out.later hb); replace BE2 := Lib.hid (BE2.out.trans (hb.mono BE2.out.size)); clear hb)
        | fail)
      go_wp2_with fail
      go_ret
      exact ⟨rfl, BE2.out⟩
theorem flat_le : ∀ {l : List Fr}, (∀ x ∈ l, decide (x.ids.length ≤ 60) = true) → (flatI l).length ≤ 60 * l.length
  | [], _ => by simp [flatI]
  | a :: l, h => by
    have h5 := flat_le (l := l) fun x hx => h x (by simp [hx])
    have h6 := of_decide_eq_true (h a (by simp))
    simp only [flatI, List.flatMap_cons, List.length_append, List.length_cons] at *
    omega
theorem fits_is {s : St} (h : fitsI s = 1) : StB s := by
  unfold fitsI smallI knownI at h
  split at h
  · cases h
  · rename_i h1
    split at h
    · split at h
      · rename_i h2 h3
        unfold knownB at h3
        rw [Bool.and_eq_true, decide_eq_true_eq, List.all_eq_true] at h3
        have hk := flat_le h3.2
        have h4 := h3.1
        exact ⟨h2, by omega, by omega, by omega, by omega⟩
      · cases h
    · split at h <;> cases h
end Go.Proofs.YthbjgfennclidaaGreat
/- A state out of plain data: gallipotlaw00.State. Walked. -/
namespace Go.Proofs.YthbjgfennclidaaGreat
set_option linter.unusedVariables false
set_option linter.unusedSimpArgs false
set_option maxRecDepth 100000
open Go.RowKit
set_option maxRecDepth 100000 in
set_option maxHeartbeats 8000000 in
theorem state_calls (s : St) (fv sv ov kv : Value) (w : World) (hS : SiW w s fv sv ov kv) (hf : s.f.size ≤ 60) (h1 : s.store.length ≤ 1000) (h2 : s.out.length ≤ 1000) :
    Calls Tryz.prog 14 #[siV s fv sv ov kv] w fun e w' => ∃ fv' sv' ov', e = .returned (stV s fv' sv' ov' kv) ∧ StW w' s fv' sv' ov' kv ∧ Below w.heap.size w w' := by
  obtain ⟨ok, ck, rfl⟩ := hS.lk.val
  have HK0 := Lib.hid hS.lk
  have OA := Lib.hid ((Own.new w (siL s fv sv ov (.slice ok s.k.l.length ck)).toArray 33).alloc (.cells stZ.toArray 52))
  have OT := Lib.hid (Own.newAt (w.alloc (.cells (siL s fv sv ov (.slice ok s.k.l.length ck)).toArray 33)) stZ.toArray 52 (b := w.heap.size + 1) (by simp))
  have BEL := Lib.hid (((Below.refl w.heap.size w).alloc (Nat.le_refl _) (.cells (siL s fv sv ov (.slice ok s.k.l.length ck)).toArray 33)).alloc (by simp) (.cells stZ.toArray 52))
  have HS := Lib.hid ((hS.alloc (.cells (siL s fv sv ov (.slice ok s.k.l.length ck)).toArray 33)).alloc (.cells stZ.toArray 52))
  have HO1 := Lib.hid hS.ls.oks
  have HO2 := Lib.hid hS.lo.oks
  have hne := Lib.hid (show w.heap.size ≠ w.heap.size + 1 by omega)
  clear hS
  have CP := fun w' h => Lib.hid (conv_calls s.f fv w' h hf)
  have C1 := fun w' h => Lib.hid (items_calls s.store sv w' h (by omega))
  have C2 := fun w' h => Lib.hid (items_calls s.out ov w' h (by omega))
  clear h1 h2
  go_enter Tryz.func14, Tryz.ntmps14
  go_wp2_with fail
  replace OA := Lib.hid OA.out.drew
  replace OT := Lib.hid OT.out.drew
  replace BEL := Lib.hid BEL.out.drew
  replace HS := Lib.hid HS.out.drew
  refine wp_region_held_drew (S := fun w' => ∀ o, w'.cell? ⟨w.heap.size, o, none⟩ = (siL s fv sv ov (.slice ok s.k.l.length ck)).toArray[o]?) (by kernel_rfl) (by exact OA.out.cell) (fun hHeld => ?_)
  refine wpAnyH_take (i := 0) (v := ?_) rfl (by kernel_rfl) (by kernel_rfl) (by kernel_rfl) (fun _ _ _ h => h) (Or.inl ⟨by rfl, ?_⟩) (by assumption) ?_
  rotate_left 1
  · (intro w hSw; (try dsimp only at hSw); go_simp; try with_reducible rfl)
  try simp only [Act.put, List.getElem_toArray, List.getElem_cons_zero, List.getElem_cons_succ, List.setIfInBounds_toArray, List.set_cons_zero, List.set_cons_succ]
  refine wpAnyH_take (i := 1) (v := ?_) rfl (by kernel_rfl) (by kernel_rfl) (by kernel_rfl) (fun _ _ _ h => h) (Or.inl ⟨by rfl, ?_⟩) (by assumption) ?_
  rotate_left 1
  · (intro w hSw; (try dsimp only at hSw); go_simp; try with_reducible rfl)
  try simp only [Act.put, List.getElem_toArray, List.getElem_cons_zero, List.getElem_cons_succ, List.setIfInBounds_toArray, List.set_cons_zero, List.set_cons_succ]
  refine wpAnyH_take (i := 2) (v := ?_) rfl (by kernel_rfl) (by kernel_rfl) (by kernel_rfl) (fun _ _ _ h => h) (Or.inl ⟨by rfl, ?_⟩) (by assumption) ?_
  rotate_left 1
  · (intro w hSw; (try dsimp only at hSw); go_simp; try with_reducible rfl)
  try simp only [Act.put, List.getElem_toArray, List.getElem_cons_zero, List.getElem_cons_succ, List.setIfInBounds_toArray, List.set_cons_zero, List.set_cons_succ]
  refine wpAnyH_take (i := 3) (v := ?_) rfl (by kernel_rfl) (by kernel_rfl) (by kernel_rfl) (fun _ _ _ h => h) (Or.inl ⟨by rfl, ?_⟩) (by assumption) ?_
  rotate_left 1
  · (intro w hSw; (try dsimp only at hSw); go_simp; try with_reducible rfl)
  try simp only [Act.put, List.getElem_toArray, List.getElem_cons_zero, List.getElem_cons_succ, List.setIfInBounds_toArray, List.set_cons_zero, List.set_cons_succ]
  refine wpAnyH_take (i := 5) (v := ?_) rfl (by kernel_rfl) (by kernel_rfl) (by kernel_rfl) (fun _ _ _ h => h) (Or.inl ⟨by rfl, ?_⟩) (by assumption) ?_
  rotate_left 1
  · (intro w hSw; (try dsimp only at hSw); go_simp; try with_reducible rfl)
  try simp only [Act.put, List.getElem_toArray, List.getElem_cons_zero, List.getElem_cons_succ, List.setIfInBounds_toArray, List.set_cons_zero, List.set_cons_succ]
  refine wpAnyH_take (i := 6) (v := ?_) rfl (by kernel_rfl) (by kernel_rfl) (by kernel_rfl) (fun _ _ _ h => h) (Or.inl ⟨by rfl, ?_⟩) (by assumption) ?_
  rotate_left 1
  · (intro w hSw; (try dsimp only at hSw); go_simp; try with_reducible rfl)
  try simp only [Act.put, List.getElem_toArray, List.getElem_cons_zero, List.getElem_cons_succ, List.setIfInBounds_toArray, List.set_cons_zero, List.set_cons_succ]
  refine wpAnyH_take (i := 8) (v := ?_) rfl (by kernel_rfl) (by kernel_rfl) (by kernel_rfl) (fun _ _ _ h => h) (Or.inl ⟨by rfl, ?_⟩) (by assumption) ?_
  rotate_left 1
  · (intro w hSw; (try dsimp only at hSw); go_simp; try with_reducible rfl)
  try simp only [Act.put, List.getElem_toArray, List.getElem_cons_zero, List.getElem_cons_succ, List.setIfInBounds_toArray, List.set_cons_zero, List.set_cons_succ]
  refine wpAnyH_take (i := 9) (v := ?_) rfl (by kernel_rfl) (by kernel_rfl) (by kernel_rfl) (fun _ _ _ h => h) (Or.inl ⟨by rfl, ?_⟩) (by assumption) ?_
  rotate_left 1
  · (intro w hSw; (try dsimp only at hSw); go_simp; try with_reducible rfl)
  try simp only [Act.put, List.getElem_toArray, List.getElem_cons_zero, List.getElem_cons_succ, List.setIfInBounds_toArray, List.set_cons_zero, List.set_cons_succ]
  refine wpAnyH_take (i := 11) (v := ?_) rfl (by kernel_rfl) (by kernel_rfl) (by kernel_rfl) (fun _ _ _ h => h) (Or.inl ⟨by rfl, ?_⟩) (by assumption) ?_
  rotate_left 1
  · (intro w hSw; (try dsimp only at hSw); go_simp; try with_reducible rfl)
  try simp only [Act.put, List.getElem_toArray, List.getElem_cons_zero, List.getElem_cons_succ, List.setIfInBounds_toArray, List.set_cons_zero, List.set_cons_succ]
  refine wpAnyH_take (i := 12) (v := ?_) rfl (by kernel_rfl) (by kernel_rfl) (by kernel_rfl) (fun _ _ _ h => h) (Or.inl ⟨by rfl, ?_⟩) (by assumption) ?_
  rotate_left 1
  · (intro w hSw; (try dsimp only at hSw); go_simp; try with_reducible rfl)
  try simp only [Act.put, List.getElem_toArray, List.getElem_cons_zero, List.getElem_cons_succ, List.setIfInBounds_toArray, List.set_cons_zero, List.set_cons_succ]
  refine wpAnyH_take (i := 13) (v := ?_) rfl (by kernel_rfl) (by kernel_rfl) (by kernel_rfl) (fun _ _ _ h => h) (Or.inl ⟨by rfl, ?_⟩) (by assumption) ?_
  rotate_left 1
  · (intro w hSw; (try dsimp only at hSw); go_simp; try with_reducible rfl)
  try simp only [Act.put, List.getElem_toArray, List.getElem_cons_zero, List.getElem_cons_succ, List.setIfInBounds_toArray, List.set_cons_zero, List.set_cons_succ]
  refine wpAnyH_take (i := 14) (v := ?_) rfl (by kernel_rfl) (by kernel_rfl) (by kernel_rfl) (fun _ _ _ h => h) (Or.inl ⟨by rfl, ?_⟩) (by assumption) ?_
  rotate_left 1
  · (intro w hSw; (try dsimp only at hSw); go_simp; try with_reducible rfl)
  try simp only [Act.put, List.getElem_toArray, List.getElem_cons_zero, List.getElem_cons_succ, List.setIfInBounds_toArray, List.set_cons_zero, List.set_cons_succ]
  refine wpAnyH_take (i := 15) (v := ?_) rfl (by kernel_rfl) (by kernel_rfl) (by kernel_rfl) (fun _ _ _ h => h) (Or.inl ⟨by rfl, ?_⟩) (by assumption) ?_
  rotate_left 1
  · (intro w hSw; (try dsimp only at hSw); go_simp; try with_reducible rfl)
  try simp only [Act.put, List.getElem_toArray, List.getElem_cons_zero, List.getElem_cons_succ, List.setIfInBounds_toArray, List.set_cons_zero, List.set_cons_succ]
  refine wpAnyH_take (i := 16) (v := ?_) rfl (by kernel_rfl) (by kernel_rfl) (by kernel_rfl) (fun _ _ _ h => h) (Or.inl ⟨by rfl, ?_⟩) (by assumption) ?_
  rotate_left 1
  · (intro w hSw; (try dsimp only at hSw); go_simp; try with_reducible rfl)
  try simp only [Act.put, List.getElem_toArray, List.getElem_cons_zero, List.getElem_cons_succ, List.setIfInBounds_toArray, List.set_cons_zero, List.set_cons_succ]
  refine wpAnyH_take (i := 17) (v := ?_) rfl (by kernel_rfl) (by kernel_rfl) (by kernel_rfl) (fun _ _ _ h => h) (Or.inl ⟨by rfl, ?_⟩) (by assumption) ?_
  rotate_left 1
  · (intro w hSw; (try dsimp only at hSw); go_simp; try with_reducible rfl)
  try simp only [Act.put, List.getElem_toArray, List.getElem_cons_zero, List.getElem_cons_succ, List.setIfInBounds_toArray, List.set_cons_zero, List.set_cons_succ]
  refine wpAnyH_take (i := 18) (v := ?_) rfl (by kernel_rfl) (by kernel_rfl) (by kernel_rfl) (fun _ _ _ h => h) (Or.inl ⟨by rfl, ?_⟩) (by assumption) ?_
  rotate_left 1
  · (intro w hSw; (try dsimp only at hSw); go_simp; try with_reducible rfl)
  try simp only [Act.put, List.getElem_toArray, List.getElem_cons_zero, List.getElem_cons_succ, List.setIfInBounds_toArray, List.set_cons_zero, List.set_cons_succ]
  refine wpAnyH_ready (rs := [4]) (by kernel_rfl) (by simp) ?_
  refine AllReadyH.cons rfl (fun K hK => ?_) AllReadyH.nil
  try simp only [List.getElem_toArray, List.getElem_cons_zero, List.getElem_cons_succ]
  (go_simp; go_at_call 39; refine (CP _ HS.out.lf).out.mono ?_; rintro e w3 ⟨v3, rfl, hl3, hb⟩; obtain ⟨o3, c3, _, _, _, rfl, _, _, _, _, _, _⟩ := lies_slice hl3; have z3 := Lib.hid (show w.heap.size + 1 + 1 ≤ _ from OT.out.lt); have L3 := Lib.hid hl3; have B3 := Lib.hid (Below.refl w3.heap.size w3); replace OA := Lib.hid (OA.out.later hb); replace OT := Lib.hid (OT.out.later hb); replace BEL := Lib.hid (BEL.out.trans (hb.mono BEL.out.size)); replace HS := Lib.hid (HS.out.later hb); clear hl3 hb)
  try go_wp2_with fail
  refine hK.out _ _ (by exact OA.out.cell) (fun hHeld => ?_)
  clear hK K
  try simp only [Act.put, List.getElem_toArray, List.getElem_cons_zero, List.getElem_cons_succ, List.setIfInBounds_toArray, List.set_cons_zero, List.set_cons_succ]
  refine wpAnyH_ready (rs := [7]) (by kernel_rfl) (by simp) ?_
  refine AllReadyH.cons rfl (fun K hK => ?_) AllReadyH.nil
  try simp only [List.getElem_toArray, List.getElem_cons_zero, List.getElem_cons_succ]
  (go_simp; go_at_call 51; refine (C1 _ HS.out.ls).out.mono ?_; rintro e w4 ⟨v4, rfl, ho4, hb⟩; obtain ⟨o4, c4, rfl⟩ := ho4.len; have R4 := Lib.hid ((OwnI.rowF ho4 HO1.out).mono (B' := w.heap.size + 1 + 1) (by have := OT.out.lt; omega)); replace B3 := Lib.hid (B3.out.trans hb); replace OA := Lib.hid (OA.out.later hb); replace OT := Lib.hid (OT.out.later hb); replace BEL := Lib.hid (BEL.out.trans (hb.mono BEL.out.size)); replace HS := Lib.hid (HS.out.later hb); clear ho4 hb)
  try go_wp2_with fail
  refine hK.out _ _ (by exact OA.out.cell) (fun hHeld => ?_)
  clear hK K
  try simp only [Act.put, List.getElem_toArray, List.getElem_cons_zero, List.getElem_cons_succ, List.setIfInBounds_toArray, List.set_cons_zero, List.set_cons_succ]
  refine wpAnyH_ready (rs := [10]) (by kernel_rfl) (by simp) ?_
  refine AllReadyH.cons rfl (fun K hK => ?_) AllReadyH.nil
  try simp only [List.getElem_toArray, List.getElem_cons_zero, List.getElem_cons_succ]
  (go_simp; go_at_call 51; refine (C2 _ HS.out.lo).out.mono ?_; rintro e w5 ⟨v5, rfl, ho5, hb⟩; obtain ⟨o5, c5, rfl⟩ := ho5.len; have R5 := Lib.hid ((OwnI.rowF ho5 HO2.out).mono (B' := w.heap.size + 1 + 1) (by have := OT.out.lt; omega)); replace R4 := Lib.hid (R4.out.later hb); replace B3 := Lib.hid (B3.out.trans (hb.mono B3.out.size)); replace OA := Lib.hid (OA.out.later hb); replace OT := Lib.hid (OT.out.later hb); replace BEL := Lib.hid (BEL.out.trans (hb.mono BEL.out.size)); replace HS := Lib.hid (HS.out.later hb); clear ho5 hb)
  try go_wp2_with fail
  refine hK.out _ _ (by exact OA.out.cell) (fun hHeld => ?_)
  clear hK K
  try simp only [Act.put, List.getElem_toArray, List.getElem_cons_zero, List.getElem_cons_succ, List.setIfInBounds_toArray, List.set_cons_zero, List.set_cons_succ]
  refine wpAnyH_take (i := 19) (v := ?_) rfl (by kernel_rfl) (by kernel_rfl) (by kernel_rfl) (fun _ _ _ h => h) (Or.inl ⟨by rfl, ?_⟩) (by assumption) ?_
  rotate_left 1
  · (intro w hSw; (try dsimp only at hSw); go_simp; try with_reducible rfl)
  try simp only [Act.put, List.getElem_toArray, List.getElem_cons_zero, List.getElem_cons_succ, List.setIfInBounds_toArray, List.set_cons_zero, List.set_cons_succ]
  refine wpAnyH_ready (rs := [20]) (by kernel_rfl) (by simp) ?_
  refine AllReadyH.cons rfl (fun K hK => ?_) AllReadyH.nil
  try simp only [List.getElem_toArray, List.getElem_cons_zero, List.getElem_cons_succ]
  first | rw [if_pos (by rfl)] | skip
  have HV := Lib.hid (And.intro (OT.out.sets (stA s (.slice o3 s.f.kids.length c3) (.slice o4 s.store.length c4) (.slice o5 s.out.length c5) (.slice ok s.k.l.length ck)).toList (by rfl)) (And.intro (below_sets (b := w.heap.size + 1) (by omega) (stA s (.slice o3 s.f.kids.length c3) (.slice o4 s.store.length c4) (.slice o5 s.out.length c5) (.slice ok s.k.l.length ck)).toList 0 BEL.out) (And.intro (R4.out.sets (b := w.heap.size + 1) (by omega) (stA s (.slice o3 s.f.kids.length c3) (.slice o4 s.store.length c4) (.slice o5 s.out.length c5) (.slice ok s.k.l.length ck)).toList 0) (And.intro (R5.out.sets (b := w.heap.size + 1) (by omega) (stA s (.slice o3 s.f.kids.length c3) (.slice o4 s.store.length c4) (.slice o5 s.out.length c5) (.slice ok s.k.l.length ck)).toList 0) (OA.out.setsFar (stA s (.slice o3 s.f.kids.length c3) (.slice o4 s.store.length c4) (.slice o5 s.out.length c5) (.slice ok s.k.l.length ck)).toList 0 hne.out)))))
  refine wp_store_mid 52 _ _ rfl (w.heap.size + 1) 0 (stA s (.slice o3 s.f.kids.length c3) (.slice o4 s.store.length c4) (.slice o5 s.out.length c5) (.slice ok s.k.l.length ck)) (by rfl) (by rfl) (OT.out.there (by rfl)) (by kernel_rfl) (by simp [Value.oneCell']) ?_
  refine hK.out _ _ (by exact HV.out.2.2.2.2.cell) (fun hHeld => ?_)
  clear hK K
  try simp only [Act.put, List.getElem_toArray, List.getElem_cons_zero, List.getElem_cons_succ, List.setIfInBounds_toArray, List.set_cons_zero, List.set_cons_succ]
  refine wpAnyH_done (by kernel_rfl) ?_ _
  have HV2 := Lib.hid (fun (b o : Nat) (hb : b ≠ w.heap.size + 1) => World.cell?_setCells_out (w.heap.size + 1) (stA s (.slice o3 s.f.kids.length c3) (.slice o4 s.store.length c4) (.slice o5 s.out.length c5) (.slice ok s.k.l.length ck)).toList 0 w5 ⟨b, o, none⟩ (fun h _ => absurd h hb))
  have HV3 := (Lib.hid (below_sets (B := w.heap.size + 1) (b := w.heap.size + 1) (Nat.le_refl _) (stA s (.slice o3 s.f.kids.length c3) (.slice o4 s.store.length c4) (.slice o5 s.out.length c5) (.slice ok s.k.l.length ck)).toList 0 (Below.refl (w.heap.size + 1) w5))).out.size
  clear OA OT BEL HS R4 R5
  go_wp2_with fail
  revert HV HV2 HV3
  generalize World.setCells _ _ _ _ = WW
  intro HV HV2 HV3
  refine ret_cell (by rfl) (by rfl) (l := (stA s (.slice o3 s.f.kids.length c3) (.slice o4 s.store.length c4) (.slice o5 s.out.length c5) (.slice ok s.k.l.length ck)).toList) HV.out.1.range Tryz.underlying52 (by rfl) (by kernel_rfl) rfl ⟨_, _, _, rfl, ⟨L3.out.mono (fun b o h => ?_) (fun b h => ?_), HV.out.2.2.1.row, HV.out.2.2.2.1.row, HK0.out.later HV.out.2.1 (Nat.le_refl _)⟩, HV.out.2.1⟩
  · have z := z3.out
    rw [HV2.out b o (by have := h.1; omega)]
    exact B3.out.cell (p := ⟨b, o, none⟩) h.2
  · exact Nat.lt_of_lt_of_le h.2 (Nat.le_trans B3.out.size HV3)
end Go.Proofs.YthbjgfennclidaaGreat
