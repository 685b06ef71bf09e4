/- Joined: KCodeC, RefSt1, RefOwnK, RefSt6. -/
import Derived.Test.YtjkcooakddlppaaGreatJ30
import Derived.Test.YtjkcooakddlppaaGreatJ24
import Derived.Test.YtjkcooakddlppaaGreatJ23
import Derived.Test.YtjkcooakddlppaaGreatJ14
import Derived.Test.YtjkcooakddlppaaGreatJ09
import Derived.Deep.CutBlock
import Derived.Deep.DeepCutAuto
import Derived.Test.YtjkcooakddlppaaGreatJ25
import Derived.Test.YtjkcooakddlppaaGreatJ27
/- The code's Own of what is known, walked. -/
namespace Go.Proofs.YtjkcooakddlppaaGreat
set_option linter.unusedVariables false
set_option linter.unusedSimpArgs false
set_option maxRecDepth 100000
open Go.RowKit
end Go.Proofs.YtjkcooakddlppaaGreat
/- States: the document's Same, Beyond and stood, walked. -/
namespace Go.Proofs.YtjkcooakddlppaaGreat
set_option linter.unusedVariables false
set_option linter.unusedSimpArgs false
set_option maxRecDepth 100000
open Go.RowKit
set_option maxRecDepth 100000 in
set_option maxHeartbeats 8000000 in
theorem refSameS_calls (a b : St) (af asv ao ak bf bs bo bk : Value) (w : World) (hA : StW w a af asv ao ak) (hB : StW w b bf bs bo bk) :
    Calls Tryz.prog 13 #[stV a af asv ao ak, stV b bf bs bo bk] w fun e w' => e = .returned (.bool (sameS a b)) ∧ Below w.heap.size w w' := by
  have OA := Lib.hid ((Has.new w (stA a af asv ao ak) 46).alloc (.cells (stA b bf bs bo bk) 46))
  have OB := Lib.hid ((Own.newAt (w.alloc (.cells (stA a af asv ao ak) 46)) (stA b bf bs bo bk) 46 (b := w.heap.size + 1) (by simp)).has)
  have BEL := Lib.hid (((Below.refl w.heap.size w).alloc (Nat.le_refl _) (.cells (stA a af asv ao ak) 46)).alloc (by simp) (.cells (stA b bf bs bo bk) 46))
  have LA := Lib.hid ((hA.alloc (.cells (stA a af asv ao ak) 46)).alloc (.cells (stA b bf bs bo bk) 46))
  have LB := Lib.hid ((hB.alloc (.cells (stA a af asv ao ak) 46)).alloc (.cells (stA b bf bs bo bk) 46))
  clear hA hB
  obtain ⟨r, f, l, o, k, count, clock, epoch⟩ := a
  obtain ⟨r', f', l', o', k', count', clock', epoch'⟩ := b
  have SF := fun w' h h' => Lib.hid (refSame_any f f' af bf w' h h')
  have SS := fun w' h h' => Lib.hid (sameList_calls sameT sameT_calls l l' asv bs w' h h')
  have SO := fun w' h h' => Lib.hid (sameList_calls sameT sameT_calls o o' ao bo w' h h')
  have SK := fun w' h h' => Lib.hid (alike_calls k k' ak bk w' h h')
  have HE := Lib.hid (show sameS ⟨r, f, l, o, k, count, clock, epoch⟩ ⟨r', f', l', o', k', count', clock', epoch'⟩ = ((decide (r = r') && (decide (count = count') && (decide (clock = clock') && decide (epoch = epoch')))) && (Pr.same f f' && (sameL sameT l l' && (sameL sameT o o' && alikeK k k')))) from rfl)
  generalize sameS ⟨r, f, l, o, k, count, clock, epoch⟩ ⟨r', f', l', o', k', count', clock', epoch'⟩ = res at *
  try simp only at OA OB LA LB BEL
  have lOA := OA.out.cell
  have zOA := OA.out.lt
  have lOB := OB.out.cell
  have zOB := OB.out.lt
  by_cases h1 : r = r'
  case neg =>
    have E := Lib.hid (show res = false by rw [HE.out]; simp [h1])
    have e1 : (r == r') = false := by simpa using h1
    have e2 : (r != r') = true := by simpa using h1
    clear HE h1
    go_enter Tryz.func13, Tryz.ntmps13
    go_wp2_with fail
    go_ret
    exact ⟨ret_bool E.out.symm, BEL.out⟩
  subst h1
  by_cases h2 : count = count'
  case neg =>
    have E := Lib.hid (show res = false by rw [HE.out]; simp [h2])
    have e1 : (count == count') = false := by simpa using h2
    have e2 : (count != count') = true := by simpa using h2
    clear HE h2
    go_enter Tryz.func13, Tryz.ntmps13
    go_wp2_with fail
    go_ret
    exact ⟨ret_bool E.out.symm, BEL.out⟩
  subst h2
  by_cases h3 : clock = clock'
  case neg =>
    have E := Lib.hid (show res = false by rw [HE.out]; simp [h3])
    have e1 : (clock == clock') = false := by simpa using h3
    have e2 : (clock != clock') = true := by simpa using h3
    clear HE h3
    go_enter Tryz.func13, Tryz.ntmps13
    go_wp2_with fail
    go_ret
    exact ⟨ret_bool E.out.symm, BEL.out⟩
  subst h3
  by_cases h4 : epoch = epoch'
  case neg =>
    have E := Lib.hid (show res = false by rw [HE.out]; simp [h4])
    have e1 : (epoch == epoch') = false := by simpa using h4
    have e2 : (epoch != epoch') = true := by simpa using h4
    clear HE h4
    go_enter Tryz.func13, Tryz.ntmps13
    go_wp2_with fail
    go_ret
    exact ⟨ret_bool E.out.symm, BEL.out⟩
  subst h4
  have E := Lib.hid (show res = (Pr.same f f' && (sameL sameT l l' && (sameL sameT o o' && alikeK k k'))) by rw [HE.out]; simp)
  clear HE
  generalize Pr.same f f' = x1 at *
  generalize sameL sameT l l' = x2 at *
  generalize sameL sameT o o' = x3 at *
  generalize alikeK k k' = x4 at *
  go_enter Tryz.func13, Tryz.ntmps13
  go_upto_region 4 with (first | (go_at_call 51; with_reducible refine (SF _ LA.out.lf LB.out.lf).out.mono ?_; rintro e w1 ⟨rfl, hb⟩; replace OA := Lib.hid (OA.out.below hb OA.out.lt); replace OB := Lib.hid (OB.out.below hb OB.out.lt); replace LA := Lib.hid (LA.out.later hb); replace LB := Lib.hid (LB.out.later hb); replace BEL := Lib.hid (BEL.out.trans (hb.mono BEL.out.size)); clear hb; replace lOA := OA.out.cell; replace zOA := OA.out.lt; replace lOB := OB.out.cell; replace zOB := OB.out.lt) | fail)
  clear SF
  go_upto_region 5 with (first | (go_at_call 29; with_reducible refine (SS _ LA.out.ls LB.out.ls).out.mono ?_; rintro e w2 ⟨rfl, hb⟩; replace OA := Lib.hid (OA.out.below hb OA.out.lt); replace OB := Lib.hid (OB.out.below hb OB.out.lt); replace LA := Lib.hid (LA.out.later hb); replace LB := Lib.hid (LB.out.later hb); replace BEL := Lib.hid (BEL.out.trans (hb.mono BEL.out.size)); clear hb; replace lOA := OA.out.cell; replace zOA := OA.out.lt; replace lOB := OB.out.cell; replace zOB := OB.out.lt) | fail)
  clear SS
  go_upto_region 6 with (first | (go_at_call 29; with_reducible refine (SO _ LA.out.lo LB.out.lo).out.mono ?_; rintro e w3 ⟨rfl, hb⟩; replace OA := Lib.hid (OA.out.below hb OA.out.lt); replace OB := Lib.hid (OB.out.below hb OB.out.lt); replace LA := Lib.hid (LA.out.later hb); replace LB := Lib.hid (LB.out.later hb); replace BEL := Lib.hid (BEL.out.trans (hb.mono BEL.out.size)); clear hb; replace lOA := OA.out.cell; replace zOA := OA.out.lt; replace lOB := OB.out.cell; replace zOB := OB.out.lt) | fail)
  clear SO
  cases x1
  case false =>
    go_wp2_with (first | (go_at_call 52; with_reducible refine (SK _ LA.out.lk LB.out.lk).out.mono ?_; rintro e w4 ⟨rfl, hb⟩; replace OA := Lib.hid (OA.out.below hb OA.out.lt); replace OB := Lib.hid (OB.out.below hb OB.out.lt); replace LA := Lib.hid (LA.out.later hb); replace LB := Lib.hid (LB.out.later hb); replace BEL := Lib.hid (BEL.out.trans (hb.mono BEL.out.size)); clear hb; replace lOA := OA.out.cell; replace zOA := OA.out.lt; replace lOB := OB.out.cell; replace zOB := OB.out.lt) | fail)
    go_ret
    exact ⟨ret_bool (by rw [E.out]; simp), BEL.out⟩
  cases x2
  case false =>
    go_wp2_with (first | (go_at_call 52; with_reducible refine (SK _ LA.out.lk LB.out.lk).out.mono ?_; rintro e w4 ⟨rfl, hb⟩; replace OA := Lib.hid (OA.out.below hb OA.out.lt); replace OB := Lib.hid (OB.out.below hb OB.out.lt); replace LA := Lib.hid (LA.out.later hb); replace LB := Lib.hid (LB.out.later hb); replace BEL := Lib.hid (BEL.out.trans (hb.mono BEL.out.size)); clear hb; replace lOA := OA.out.cell; replace zOA := OA.out.lt; replace lOB := OB.out.cell; replace zOB := OB.out.lt) | fail)
    go_ret
    exact ⟨ret_bool (by rw [E.out]; simp), BEL.out⟩
  cases x3
  case false =>
    go_wp2_with (first | (go_at_call 52; with_reducible refine (SK _ LA.out.lk LB.out.lk).out.mono ?_; rintro e w4 ⟨rfl, hb⟩; replace OA := Lib.hid (OA.out.below hb OA.out.lt); replace OB := Lib.hid (OB.out.below hb OB.out.lt); replace LA := Lib.hid (LA.out.later hb); replace LB := Lib.hid (LB.out.later hb); replace BEL := Lib.hid (BEL.out.trans (hb.mono BEL.out.size)); clear hb; replace lOA := OA.out.cell; replace zOA := OA.out.lt; replace lOB := OB.out.cell; replace zOB := OB.out.lt) | fail)
    go_ret
    exact ⟨ret_bool (by rw [E.out]; simp), BEL.out⟩
  go_wp2_with (first | (go_at_call 52; with_reducible refine (SK _ LA.out.lk LB.out.lk).out.mono ?_; rintro e w4 ⟨rfl, hb⟩; replace OA := Lib.hid (OA.out.below hb OA.out.lt); replace OB := Lib.hid (OB.out.below hb OB.out.lt); replace LA := Lib.hid (LA.out.later hb); replace LB := Lib.hid (LB.out.later hb); replace BEL := Lib.hid (BEL.out.trans (hb.mono BEL.out.size)); clear hb; replace lOA := OA.out.cell; replace zOA := OA.out.lt; replace lOB := OB.out.cell; replace zOB := OB.out.lt) | fail)
  go_ret
  exact ⟨ret_bool (by rw [E.out]; simp), BEL.out⟩
/-! ### Known beyond a count -/
end Go.Proofs.YtjkcooakddlppaaGreat
/- What is known: the document's Own, walked. -/
namespace Go.Proofs.YtjkcooakddlppaaGreat
set_option linter.unusedVariables false
set_option linter.unusedSimpArgs false
set_option maxRecDepth 100000
open Go.RowKit
structure OwS (w : World) (X Y Z : Array Value) (W : World) : Prop where
  o1 : Own W w.heap.size X 31
  o2 : Own W (w.heap.size + 1) Y 37
  o3 : Own W (w.heap.size + 1 + 1) Z 31
  be : Below w.heap.size w W
theorem OwS.later {w W W' : World} {X Y Z : Array Value} (h : OwS w X Y Z W) (hb : Below W.heap.size W W') : OwS w X Y Z W' :=
  ⟨h.o1.later hb, h.o2.later hb, h.o3.later hb, h.be.trans (hb.mono h.be.size)⟩
end Go.Proofs.YtjkcooakddlppaaGreat
/- A version is made: the document's answer, walked. -/
namespace Go.Proofs.YtjkcooakddlppaaGreat
set_option linter.unusedVariables false
set_option linter.unusedSimpArgs false
set_option maxRecDepth 100000
open Go.RowKit
theorem FrFresh.stays {w w' : World} {B : Nat} {l : List Fr} {v : Value} (h : FrFresh w B l v) (hb : Below w.heap.size w w') : FrFresh w' B l v := fun w'' h1 h2 =>
  h w'' (fun b hB hlt => (h1 b hB (Nat.lt_of_lt_of_le hlt hb.size)).trans (hb.block b hlt)) (Nat.le_trans hb.size h2)
theorem FrFresh.sets {B b : Nat} {l : List Fr} {v : Value} (hb : b < B) (vs : List Value) : ∀ {w : World} (o : Nat), FrFresh w B l v → FrFresh (w.setCells b o vs) B l v := by
  induction vs with
  | nil => intro w o h; exact h
  | cons u vs ih => intro w o h; exact ih (o + 1) (h.setLow (a := ⟨b, o, none⟩) hb u)
def StX (w : World) (B : Nat) (s s' : St) (sv ov kv sv' ov' kv' : Value) : Prop := (s' = s ∧ sv' = sv ∧ ov' = ov ∧ kv' = kv) ∨ (s'.f = s.f ∧ RowF w B s'.store sv' ∧ RowF w B s'.out ov' ∧ FrFresh w B s'.k.l kv')
theorem StX.refl (w : World) (B : Nat) (s : St) (sv ov kv : Value) : StX w B s s sv ov kv sv ov kv := .inl ⟨rfl, rfl, rfl, rfl⟩
theorem StX.mono {w : World} {B B' : Nat} {s s' : St} {sv ov kv sv' ov' kv' : Value} (h : StX w B s s' sv ov kv sv' ov' kv') (hb : B' ≤ B) : StX w B' s s' sv ov kv sv' ov' kv' :=
  h.imp id fun ⟨h0, h1, h2, h3⟩ => ⟨h0, h1.mono hb, h2.mono hb, h3.mono hb⟩
theorem StX.later {w w' : World} {B : Nat} {s s' : St} {sv ov kv sv' ov' kv' : Value} (h : StX w B s s' sv ov kv sv' ov' kv') (hb : Below w.heap.size w w') : StX w' B s s' sv ov kv sv' ov' kv' :=
  h.imp id fun ⟨h0, h1, h2, h3⟩ => ⟨h0, h1.later hb, h2.later hb, h3.stays hb⟩
theorem StX.sets {w : World} {B b : Nat} {s s' : St} {sv ov kv sv' ov' kv' : Value} (h : StX w B s s' sv ov kv sv' ov' kv') (hb : b < B) (vs : List Value) : StX (w.setCells b 0 vs) B s s' sv ov kv sv' ov' kv' :=
  h.imp id fun ⟨h0, h1, h2, h3⟩ => ⟨h0, h1.sets hb vs 0, h2.sets hb vs 0, h3.sets hb vs 0⟩
theorem StX.lies {w w0 : World} {B : Nat} {s s' : St} {fv sv ov kv sv' ov' kv' : Value} (h : StX w B s s' sv ov kv sv' ov' kv') (h0 : StW w0 s fv sv ov kv) (hb : Below w0.heap.size w0 w) : StW w s' fv sv' ov' kv' := by
  rcases h with ⟨rfl, rfl, rfl, rfl⟩ | ⟨e, h1, h2, h3⟩
  · exact h0.later hb
  · exact ⟨by rw [e]; exact h0.lf.later hb (Nat.le_refl _), h1.row, h2.row, h3.fr⟩
end Go.Proofs.YtjkcooakddlppaaGreat
