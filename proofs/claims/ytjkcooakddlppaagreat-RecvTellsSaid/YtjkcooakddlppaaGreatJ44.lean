/- Joined: LocN, Up9M, Up9, RecvUp. -/
import Derived.Test.YtjkcooakddlppaaGreatJ40
import Derived.Test.YtjkcooakddlppaaGreatJ35
import Derived.Test.YtjkcooakddlppaaGreatJ39
/- The laws' walks of layer 9: what they share. No walk. -/
namespace Go.Proofs.YtjkcooakddlppaaGreat
set_option linter.unusedVariables false
set_option linter.unusedSimpArgs false
set_option maxRecDepth 100000
open Go.RowKit
theorem row_nil8 (w : World) : Row 8 ic w [] (.slice none 0 0) := (OwnI.nil w 0).row (by simp)
theorem frW_nil (w : World) : FrW w [] (.slice none 0 0) := (frFresh_nil w 0).fr
theorem newC (r : Int) (f : Pr) (v : Value) (w : World) (h : LP w f v) (hf : f.size ≤ 60) :
    Calls Tryz.prog 18 #[.int .i64 r, prV f v] w fun e w' => ∃ f5 s5 o5 k5, e = .returned (.tuple #[stV (newT r f) f5 s5 o5 k5, errI (newE r f)]) ∧ StW w' (newT r f) f5 s5 o5 k5 ∧ Below w.heap.size w w' :=
  (localNew_calls r f v w h hf).mono fun _ _ ⟨f5, s5, o5, k5, he, hx, hb⟩ => ⟨f5, s5, o5, k5, he, hx.lies h (row_nil8 w) (row_nil8 w) (frW_nil w) hb, hb⟩
end Go.Proofs.YtjkcooakddlppaaGreat
/- The document's example of layer 9: its mathematics. No walk. -/
namespace Go.Proofs.YtjkcooakddlppaaGreat
set_option linter.unusedVariables false
set_option linter.unusedSimpArgs false
set_option maxRecDepth 100000
open Go.RowKit
theorem new_good {r : Int} {f : Pr} (h : okNew r f = true) : Good (newS r f) := by
  unfold okNew at h
  rw [Bool.and_eq_true, inB_iff] at h
  refine ⟨h.1, rfl, rfl, mayK_zero, h.2, by show 0 + 0 ≤ 40; omega, by show (0 : Int) ≤ 0 ∧ (0 : Int) ≤ 1000; omega, by show (0 : Int) ≤ 0 ∧ (0 : Int) ≤ 1000000; omega, by show (0 : Int) ≤ 0 ∧ (0 : Int) ≤ 1000000; omega, fun i hi => by simp [newS] at hi, fun i hi => by simp [newS] at hi, fun i hi => by simp [newS] at hi, ?_⟩
  rw [beyS_iff]
  exact ⟨cntV_le (Int.le_refl _) fun _ => Int.le_refl _, fun f hf => by simp [newS] at hf⟩
end Go.Proofs.YtjkcooakddlppaaGreat
/- The document's example of layer 9. Walked. -/
namespace Go.Proofs.YtjkcooakddlppaaGreat
set_option linter.unusedVariables false
set_option linter.unusedSimpArgs false
set_option maxRecDepth 100000
open Go.RowKit
end Go.Proofs.YtjkcooakddlppaaGreat
/- The document's example of layer 10. Walked. -/
namespace Go.Proofs.YtjkcooakddlppaaGreat
set_option linter.unusedVariables false
set_option linter.unusedSimpArgs false
set_option maxRecDepth 100000
open Go Go.RowKit
abbrev pUpR : Pr := .node 2 ⟨#[]⟩ 0 0 0 []
abbrev xUpR : Itm := ⟨⟨#[97]⟩, 2, 1, 5, ⟨#[]⟩, 0, 0, 0, false⟩
theorem pUpR_may : Pr.mayB pUpR = true := by
  have h : Pr.bareB ⟨#[]⟩ 0 0 0 0 = true := by
    have h1 : feq 0 0 = true := by decide
    have h2 : (⟨#[]⟩ : ByteArray).toList = [] := by rw [ByteArray.toList_eq]
    unfold Pr.bareB
    rw [h1, h2]; rfl
  simp [Pr.mayB, Pr.fitsB, Pr.size, Pr.sizes, Pr.depth, Pr.depths, Pr.all, Pr.alls, Pr.partB, h]
theorem upR_ok : okNew 1 pUpR = true := by unfold okNew; rw [pUpR_may]; decide
theorem upR_new : newT 1 pUpR = newS 1 pUpR ∧ newE 1 pUpR = 0 := by
  unfold newT newE
  rw [if_pos upR_ok, if_pos upR_ok]; exact ⟨rfl, rfl⟩
theorem xUpR_may : mayT xUpR = true := by decide
theorem upR_has : hasT pUpR xUpR = false := by decide
theorem upR_recv : recvE (newS 1 pUpR) xUpR = 0 ∧ recvS (newS 1 pUpR) xUpR = laidS (preR (newS 1 pUpR) xUpR) xUpR false := by
  have h1 : comesB (newS 1 pUpR) xUpR = true := by unfold comesB; rw [xUpR_may]; decide
  have h2 : hasK (newS 1 pUpR).k xUpR.id xUpR.r xUpR.c = false := by decide
  have h3 : newB (newS 1 pUpR) xUpR = true := by decide
  have h4 : fullR (newS 1 pUpR) xUpR = false := by
    unfold fullR
    rw [show hasT (newS 1 pUpR).f xUpR = false from upR_has]
    simp
  unfold recvE recvS
  rw [if_pos h1, if_pos h1, if_neg (by rw [h2]; decide), if_neg (by rw [h4]; decide), if_neg (by rw [h2]; decide), if_neg (by rw [h4]; decide), if_pos h3]
  exact ⟨rfl, rfl⟩
theorem upR_lens : (recvS (newS 1 pUpR) xUpR).store.length = 0 ∧ (recvS (newS 1 pUpR) xUpR).out.length = 0 ∧ (recvS (newS 1 pUpR) xUpR).clock = 5 := by
  rw [upR_recv.2]
  refine ⟨?_, ?_, rfl⟩
  · show (laidStore (preR (newS 1 pUpR) xUpR) xUpR).length = 0
    unfold laidStore
    rw [show hasT (preR (newS 1 pUpR) xUpR).f xUpR = false from upR_has, if_neg (by decide)]
    rfl
  · show (laidOut (preR (newS 1 pUpR) xUpR) xUpR false).length = 0
    rw [laid_out]; rfl
theorem upR_knows : hasK (recvS (newS 1 pUpR) xUpR).k xUpR.id 2 1 = true := (recv_knows (new_good upR_ok) upR_recv.1).2
set_option maxRecDepth 100000 in
set_option maxHeartbeats 8000000 in
theorem up10_calls (w : World) : Calls Tryz.prog 6 #[] w fun e w' => e = .returned (.bool true) ∧ Below w.heap.size w w' := by
  have BEL := Lib.hid (Below.refl w.heap.size w)
  have hB1 : StB (newS 1 pUpR) := ⟨by decide, by decide, by decide, by decide, by decide⟩
  have CN := fun w' => Lib.hid (show Calls Tryz.prog 18 #[.int .i64 1, prV pUpR (.slice none 0 0)] w' (fun q w'' => ∃ f5 s5 o5 k5, q = .returned (.tuple #[stV (newS 1 pUpR) f5 s5 o5 k5, .nilIface]) ∧ StW w'' (newS 1 pUpR) f5 s5 o5 k5 ∧ Below w'.heap.size w' w'') from by
    have h := newC 1 pUpR (.slice none 0 0) w' (lies_nil (by decide)) (by decide)
    rw [upR_new.1, upR_new.2] at h
    exact h)
  have CI := fun a b c e w' (h : StW w' (newS 1 pUpR) a b c e) => Lib.hid (show Calls Tryz.prog 11 #[stV (newS 1 pUpR) a b c e, iV xUpR] w' (fun q w'' => ∃ f6 s6 o6 k6, q = .returned (.tuple #[stV (recvS (newS 1 pUpR) xUpR) f6 s6 o6 k6, .nilIface]) ∧ StW w'' (recvS (newS 1 pUpR) xUpR) f6 s6 o6 k6 ∧ Below w'.heap.size w' w'') from by
    have h2 := recvItem_calls (newS 1 pUpR) a b c e xUpR w' h (new_good upR_ok) hB1 ⟨by decide, by decide⟩
    rw [upR_recv.1] at h2
    exact h2.mono fun _ _ ⟨f6, s6, o6, k6, he, hx, hb⟩ => ⟨f6, s6, o6, k6, he, hx.now, hb⟩)
  have hL := upR_lens
  have hcl := hL.2.2
  have CK := fun kv w' h => Lib.hid (upR_knows ▸ knowHas_calls (recvS (newS 1 pUpR) xUpR).k xUpR.id 2 1 kv w' h (by decide))
  generalize hS2 : recvS (newS 1 pUpR) xUpR = S2 at *
  generalize newS 1 pUpR = S1 at *
  have HL := Lib.hid hL
  have HCL := Lib.hid hcl
  clear hB1 hL hcl hS2
  go_enter Tryz.func6, Tryz.ntmps6
  go_upto_region 3 with (first
    | (go_at_call 18; refine (CN _).out.mono ?_; rintro e w1 ⟨f5, s5, o5, k5, rfl, hst, hb⟩; obtain ⟨⟨oa1, ca1, rfl⟩, ⟨ob1, cb1, rfl⟩, ⟨oc1, cc1, rfl⟩, ⟨od1, cd1, rfl⟩⟩ := hst.shape; replace BEL := Lib.hid (BEL.out.trans (Below.mono hb BEL.out.size)); have X1 := Lib.hid (hst); have O1 := Lib.hid (Own.new w1 stZ.toArray 46); clear hst hb)
    | (refine wpList_store_mid (by rfl) 46 _ _ (by rfl) w1.heap.size 0 (stA S1 (.slice oa1 S1.f.kids.length ca1) (.slice ob1 S1.store.length cb1) (.slice oc1 S1.out.length cc1) (.slice od1 S1.k.l.length cd1)) (by rfl) (by rfl) (O1.out.there (by rfl)) (by kernel_rfl) (by simp [Value.oneCell']) ?_; have HK := Lib.hid (And.intro (O1.out.sets (stA S1 (.slice oa1 S1.f.kids.length ca1) (.slice ob1 S1.store.length cb1) (.slice oc1 S1.out.length cc1) (.slice od1 S1.k.l.length cd1)).toList (by rfl)) (below_sets (B := w1.heap.size) (b := w1.heap.size) (Nat.le_refl _) (stA S1 (.slice oa1 S1.f.kids.length ca1) (.slice ob1 S1.store.length cb1) (.slice oc1 S1.out.length cc1) (.slice od1 S1.k.l.length cd1)).toList 0 ((Below.refl _ _).alloc (Nat.le_refl _) (.cells stZ.toArray 46)))); revert HK; generalize World.setCells _ _ _ _ = W1; intro HK; have hb := HK.out.2; replace O1 := Lib.hid HK.out.1; replace BEL := Lib.hid (BEL.out.trans (Below.mono hb BEL.out.size)); replace X1 := Lib.hid (X1.out.later hb); clear HK hb)
    | fail)
  have O3 := Lib.hid (Own.new W1 (iA xUpR) 49)
  have hb9 : Below W1.heap.size W1 (W1.alloc (.cells (iA xUpR) 49)) := (Below.refl _ _).alloc (Nat.le_refl _) _
  replace O1 := Lib.hid (O1.out.later hb9)
  replace X1 := Lib.hid (X1.out.later hb9)
  replace BEL := Lib.hid (BEL.out.trans (hb9.mono BEL.out.size))
  clear hb9
  have l3 := O3.out.cell
  have z3 := O3.out.lt
  go_upto_region 4 with (first
    | (refine wpList_load_mid (by rfl) 46 _ (by rfl) w1.heap.size 0 (by rfl) (stA S1 (.slice oa1 S1.f.kids.length ca1) (.slice ob1 S1.store.length cb1) (.slice oc1 S1.out.length cc1) (.slice od1 S1.k.l.length cd1)).toList _ (by exact O1.out.part 0 _ (by rfl)) Tryz.underlying46 (by rfl) (by kernel_rfl) ?_)
    | (go_at_call 11; refine (CI _ _ _ _ _ X1.out).out.mono ?_; rintro e w2 ⟨f6, s6, o6, k6, rfl, hst, hb⟩; obtain ⟨⟨oa2, ca2, rfl⟩, ⟨ob2, cb2, rfl⟩, ⟨oc2, cc2, rfl⟩, ⟨od2, cd2, rfl⟩⟩ := hst.shape; replace O1 := Lib.hid (O1.out.later hb); replace O3 := Lib.hid (O3.out.later hb); replace X1 := Lib.hid (X1.out.later hb); replace BEL := Lib.hid (BEL.out.trans (Below.mono hb BEL.out.size)); have X2 := Lib.hid (hst); have O2 := Lib.hid (Own.new w2 stZ.toArray 46); clear hst hb; clear l3 z3)
    | (refine wpList_store_mid (by rfl) 46 _ _ (by rfl) w2.heap.size 0 (stA S2 (.slice oa2 S2.f.kids.length ca2) (.slice ob2 S2.store.length cb2) (.slice oc2 S2.out.length cc2) (.slice od2 S2.k.l.length cd2)) (by rfl) (by rfl) (O2.out.there (by rfl)) (by kernel_rfl) (by simp [Value.oneCell']) ?_; have HK := Lib.hid (And.intro (O2.out.sets (stA S2 (.slice oa2 S2.f.kids.length ca2) (.slice ob2 S2.store.length cb2) (.slice oc2 S2.out.length cc2) (.slice od2 S2.k.l.length cd2)).toList (by rfl)) (below_sets (B := w2.heap.size) (b := w2.heap.size) (Nat.le_refl _) (stA S2 (.slice oa2 S2.f.kids.length ca2) (.slice ob2 S2.store.length cb2) (.slice oc2 S2.out.length cc2) (.slice od2 S2.k.l.length cd2)).toList 0 ((Below.refl _ _).alloc (Nat.le_refl _) (.cells stZ.toArray 46)))); revert HK; generalize World.setCells _ _ _ _ = W2; intro HK; have hb := HK.out.2; replace O2 := Lib.hid HK.out.1; replace O1 := Lib.hid (O1.out.later hb); replace O3 := Lib.hid (O3.out.later hb); replace X1 := Lib.hid (X1.out.later hb); replace BEL := Lib.hid (BEL.out.trans (Below.mono hb BEL.out.size)); replace X2 := Lib.hid (X2.out.later hb); clear HK hb)
    | fail)
  clear O1 X1 CN CI
  rw [HL.out.1, HL.out.2.1] at O2
  have OC : Hid (Own W2 w2.heap.size (stA ⟨S2.r, S2.f, S2.store, S2.out, S2.k, S2.count, 5, S2.epoch⟩ (.slice oa2 S2.f.kids.length ca2) (.slice ob2 0 cb2) (.slice oc2 0 cc2) (.slice od2 S2.k.l.length cd2)) 46) := by
    have h := O2.out
    rw [← HCL.out]
    exact Lib.hid h
  have l2 := OC.out.cell
  have z2 := OC.out.lt
  have l3 := O3.out.cell
  have z3 := O3.out.lt
  go_wp2_with (first
    | (refine wpList_load_mid_g (by rfl) 31 _ (by rfl) w2.heap.size 8 (by rfl) (knA S2.k.star (.slice od2 S2.k.l.length cd2)).toList _ (by exact OC.out.part 8 _ (by rfl)) Tryz.underlying31 (by rfl) (by kernel_rfl) ?_)
    | (go_at_call 26; refine (CK _ _ X2.out.lk).out.mono ?_; rintro e wz ⟨rfl, hb⟩; clear l2 z2 l3 z3; replace OC := Lib.hid (OC.out.later hb); replace BEL := Lib.hid (BEL.out.trans (hb.mono BEL.out.size)); clear hb; have l2 := OC.out.cell; have z2 := OC.out.lt)
    | fail)
  go_ret
  exact ⟨rfl, BEL.out⟩
end Go.Proofs.YtjkcooakddlppaaGreat
