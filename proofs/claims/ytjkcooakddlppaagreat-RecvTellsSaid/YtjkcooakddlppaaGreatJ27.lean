/- Joined: RefSt3, RefSt4, RefSt5, RowF. -/
import Derived.Test.YtjkcooakddlppaaGreatJ26
import Derived.Test.YtjkcooakddlppaaGreatJ10
/- States: the document's Read and Stands, walked. -/
namespace Go.Proofs.YtjkcooakddlppaaGreat
set_option linter.unusedVariables false
set_option linter.unusedSimpArgs false
set_option maxRecDepth 100000
open Go.RowKit
theorem MkS.grown {w wr w' : World} {X : Array Value} (h : MkS w X wr) {l : List Itm} {v : Value} (ho : OwnI wr (w.heap.size + 1) l v) (hg : wr.grownBy w' v.ownBlock) : MkS w X w' :=
  have hb : Below (w.heap.size + 1) wr w' := (Below.refl _ _).grown hg (by have := h.o1.lt; omega) fun k hk => by have := (World.ownsRow.lt ho k hk).1; omega
  ⟨h.o1.below hb (by omega), h.bel.trans (hb.mono (by omega))⟩
end Go.Proofs.YtjkcooakddlppaaGreat
/- States: the document's Stands and New, walked. -/
namespace Go.Proofs.YtjkcooakddlppaaGreat
set_option linter.unusedVariables false
set_option linter.unusedSimpArgs false
set_option maxRecDepth 100000
open Go.RowKit
def standsS (s : St) (id : ByteArray) : Itm × Bool := getI (bothI behT s.store s.out) id
set_option maxRecDepth 100000 in
set_option maxHeartbeats 8000000 in
theorem refStands_calls (s : St) (fv sv ov kv : Value) (id : ByteArray) (w : World) (hS : StW w s fv sv ov kv) (h1 : s.store.length ≤ 1000) (h2 : s.out.length ≤ 1000) :
    Calls Tryz.prog 27 #[stV s fv sv ov kv, .string id] w fun e w' => e = .returned (.tuple #[iV (standsS s id).1, .bool (standsS s id).2]) ∧ Below w.heap.size w w' := by
  have OA := Lib.hid ((Own.new w (stA s fv sv ov kv) 46).alloc (.cells #[.string ⟨#[]⟩, .int .i64 0, .int .i64 0, .int .i64 0, .string ⟨#[]⟩, .int .i64 0, .complex .f64 0 0, .bool false] 49))
  have OH := Lib.hid (Own.newAt (w.alloc (.cells (stA s fv sv ov kv) 46)) #[.string ⟨#[]⟩, .int .i64 0, .int .i64 0, .int .i64 0, .string ⟨#[]⟩, .int .i64 0, .complex .f64 0 0, .bool false] 49 (b := w.heap.size + 1) (by simp))
  have BEL := Lib.hid (((Below.refl w.heap.size w).alloc (Nat.le_refl _) (.cells (stA s fv sv ov kv) 46)).alloc (by simp) (.cells #[.string ⟨#[]⟩, .int .i64 0, .int .i64 0, .int .i64 0, .string ⟨#[]⟩, .int .i64 0, .complex .f64 0 0, .bool false] 49))
  have LS := Lib.hid ((hS.alloc (.cells (stA s fv sv ov kv) 46)).alloc (.cells #[.string ⟨#[]⟩, .int .i64 0, .int .i64 0, .int .i64 0, .string ⟨#[]⟩, .int .i64 0, .complex .f64 0 0, .bool false] 49))
  clear hS
  have CB := fun w' h h' => Lib.hid (both_calls behT behT_calls s.store s.out sv ov w' h h' h1 h2)
  have CG := fun v w' h => Lib.hid (refGet_calls (bothI behT s.store s.out) id v w' h)
  unfold standsS
  generalize getI (bothI behT s.store s.out) id = gg at *
  obtain ⟨g, gb⟩ := gg
  simp only at CG ⊢
  generalize bothI behT s.store s.out = B at *
  clear h1 h2
  have lOA := OA.out.cell
  have zOA := OA.out.lt
  go_enter Tryz.func27, Tryz.ntmps27
  go_wp2_with (first | (go_at_call 75; with_reducible refine (CB _ LS.out.ls LS.out.lo).out.mono ?_; rintro e w1 ⟨v2, rfl, hr, hb⟩; have LB := Lib.hid hr; replace OA := Lib.hid (OA.out.later hb); replace OH := Lib.hid (OH.out.later hb); replace BEL := Lib.hid (BEL.out.trans (hb.mono BEL.out.size)); clear hr hb lOA zOA) | (go_at_call 22; with_reducible refine (CG _ _ LB.out).out.mono ?_; rintro e w2 ⟨rfl, hb⟩; replace OH := Lib.hid (OH.out.later hb); replace BEL := Lib.hid (BEL.out.trans (hb.mono BEL.out.size)); clear hb; have l1 := OH.out.cell; have f1 := OH.out.free; have z1 := OH.out.lt) | fail)
  have key := And.intro (st8_own OH.out (.string g.id) (.int .i64 g.r) (.int .i64 g.c) (.int .i64 g.st) (.string g.kd) (.int .i64 g.num) (.complex .f64 g.x g.y) (.bool g.d)) (st8_below (b := w.heap.size + 1) BEL.out (by omega) (.string g.id) (.int .i64 g.r) (.int .i64 g.c) (.int .i64 g.st) (.string g.kd) (.int .i64 g.num) (.complex .f64 g.x g.y) (.bool g.d))
  clear l1 f1 z1
  unfold st8 at key
  revert key
  generalize World.setCell (World.setCell (World.setCell (World.setCell (World.setCell (World.setCell (World.setCell (World.setCell _ _ _) _ _) _ _) _ _) _ _) _ _) _ _) _ _ = WW
  rintro ⟨of, bf⟩
  have lf := of.cell
  refine bodyPost_ret (v := .tuple #[iV g, .bool gb]) (by simp [results, Tryz.results27, go_sem, lf]) rfl ⟨rfl, bf⟩
end Go.Proofs.YtjkcooakddlppaaGreat
/- States: the document's New, walked. -/
namespace Go.Proofs.YtjkcooakddlppaaGreat
set_option linter.unusedVariables false
set_option linter.unusedSimpArgs false
set_option maxRecDepth 100000
open Go.RowKit
def newS (r : Int) (f : Pr) : St := ⟨r, f, [], [], ⟨zeroV, []⟩, 0, 0, 0⟩
def zeroP : Pr := .node 0 ⟨#[]⟩ 0 0 0 []
def zeroS : St := newS 0 zeroP
def okNew (r : Int) (f : Pr) : Bool := Pr.mayB f && inB r 1 8
abbrev stN (r : Int) (f : Pr) (fv : Value) : List Value := [.int .i64 r, .int .i64 f.op, .string f.text, .int .i64 f.n, .complex .f64 f.x f.y, fv, .slice none 0 0, .slice none 0 0, .int .i64 0, .int .i64 0, .int .i64 0, .int .i64 0, .int .i64 0, .int .i64 0, .int .i64 0, .int .i64 0, .slice none 0 0, .int .i64 0, .int .i64 0, .int .i64 0]
abbrev stZ : List Value := [.int .i64 0, .int .i64 0, .string ⟨#[]⟩, .int .i64 0, .complex .f64 0 0, .slice none 0 0, .slice none 0 0, .slice none 0 0, .int .i64 0, .int .i64 0, .int .i64 0, .int .i64 0, .int .i64 0, .int .i64 0, .int .i64 0, .int .i64 0, .slice none 0 0, .int .i64 0, .int .i64 0, .int .i64 0]
end Go.Proofs.YtjkcooakddlppaaGreat
/- States: the document's laid, walked. -/
namespace Go.Proofs.YtjkcooakddlppaaGreat
set_option linter.unusedVariables false
set_option linter.unusedSimpArgs false
set_option maxRecDepth 100000
open Go.RowKit
def RowF (w : World) (B : Nat) (l : List Itm) (v : Value) : Prop := ∃ oa cap b o, v = .slice oa l.length cap ∧ RowAt 8 ic w l oa cap b o ∧ (0 < l.length → B ≤ b)
theorem RowF.row {w : World} {B : Nat} {l : List Itm} {v : Value} (h : RowF w B l v) : Row 8 ic w l v := by
  obtain ⟨oa, cap, b, o, e, h, _⟩ := h; exact ⟨oa, cap, b, o, e, h⟩
theorem RowF.later {w w' : World} {B : Nat} {l : List Itm} {v : Value} (h : RowF w B l v) (hb : Below w.heap.size w w') : RowF w' B l v := by
  obtain ⟨oa, cap, b, o, e, h, h2⟩ := h; exact ⟨oa, cap, b, o, e, h.later hb, h2⟩
theorem RowF.sub {w w' : World} {B : Nat} {l : List Itm} {v : Value} (h : RowF w B l v) (hs : w.heap.size ≤ w'.heap.size) (hc : ∀ b o, B ≤ b → w'.cell? ⟨b, o, none⟩ = w.cell? ⟨b, o, none⟩) : RowF w' B l v := by
  obtain ⟨oa, cap, b, o, e, h, h2⟩ := h
  refine ⟨oa, cap, b, o, e, ⟨h.len, h.max, fun h0 => ⟨(h.at0 h0).1, Nat.lt_of_lt_of_le (h.at0 h0).2 hs⟩, fun k i hk j u hu => ?_, h.ok⟩, h2⟩
  rw [hc _ _ (h2 (by have := some_posI hk; omega))]
  exact h.cell k i hk j u hu
theorem RowF.set {w : World} {B : Nat} {l : List Itm} {v : Value} (h : RowF w B l v) {b q : Nat} (hb : b < B) (u : Value) : RowF (w.setCell ⟨b, q, none⟩ u) B l v :=
  h.sub (by simp [World.setCell]) fun b' o hb' => by
    apply World.cell?_setCell_other
    intro e
    have : b = b' := congrArg Addr.block e
    omega
theorem RowF.sets {B b : Nat} {l : List Itm} {v : Value} (hb : b < B) (vs : List Value) : ∀ {w : World} (o : Nat), RowF w B l v → RowF (w.setCells b o vs) B l v := by
  induction vs with
  | nil => intro w o h; exact h
  | cons u r ih => intro w o h; exact ih (o + 1) (h.set hb u)
theorem RowF.mono {w : World} {B B' : Nat} {l : List Itm} {v : Value} (h : RowF w B l v) (hb : B' ≤ B) : RowF w B' l v := by
  obtain ⟨oa, cap, b, o, e, h, h2⟩ := h; exact ⟨oa, cap, b, o, e, h, fun h0 => Nat.le_trans hb (h2 h0)⟩
theorem OwnI.rowF {w : World} {B : Nat} {l : List Itm} {v : Value} (h : OwnI w B l v) (hok : ∀ i ∈ l, i.id.size ≤ maxLen ∧ i.kd.size ≤ maxLen) : RowF w B l v := by
  obtain ⟨oa, cap, g, e, h1, h2, hg⟩ := row_slice h
  have hr := h.row hok
  subst e
  refine ⟨oa, cap, g, 0, rfl, ⟨h1, h2, fun h0 => ⟨(hg h0).1, (hg h0).2.2⟩, fun k i hk j u hu => ?_, hok⟩, fun h0 => (hg h0).2.1⟩
  obtain ⟨oa', cap', b', o', e', hr'⟩ := hr
  cases e'
  have h0 : 0 < l.length := by have := some_posI hk; omega
  have e1 := (hg h0).1
  rw [(hr'.at0 h0).1] at e1
  cases e1
  exact hr'.cell k i hk j u hu
def laidStore (s : St) (x : Itm) : List Itm := if hasT s.f x = true then putI (s.store.filter (neB x.id)) x else s.store.filter (neB x.id)
def laidOut (s : St) (x : Itm) (keep : Bool) : List Itm := if hasT s.f x = true then s.out.filter (neB x.id) else if keep = true then putI (s.out.filter (neB x.id)) x else s.out.filter (neB x.id)
def laidS (s : St) (x : Itm) (keep : Bool) : St := ⟨s.r, s.f, laidStore s x, laidOut s x keep, s.k, s.count, s.clock, s.epoch⟩
theorem stA_set6 (s : St) (fv sv ov kv v : Value) : (stA s fv sv ov kv).setIfInBounds 6 v = stA s fv v ov kv := by simp
theorem stA_set7 (s : St) (fv sv ov kv v : Value) : (stA s fv sv ov kv).setIfInBounds 7 v = stA s fv sv v kv := by simp
set_option maxRecDepth 100000 in
set_option maxHeartbeats 8000000 in
theorem refLaid_calls (s : St) (fv sv ov kv : Value) (x : Itm) (keep : Bool) (w : World) (hS : StW w s fv sv ov kv) (hx : x.id.size ≤ maxLen ∧ x.kd.size ≤ maxLen) (hf : s.f.size ≤ 1000) (h1 : s.store.length ≤ 1000) (h2 : s.out.length ≤ 1000) :
    Calls Tryz.prog 50 #[stV s fv sv ov kv, iV x, .bool keep] w fun e w' => ∃ sv' ov', e = .returned (stV (laidS s x keep) fv sv' ov' kv) ∧ (StW w' (laidS s x keep) fv sv' ov' kv ∧ RowF w' w.heap.size (laidStore s x) sv' ∧ RowF w' w.heap.size (laidOut s x keep) ov') ∧ Below w.heap.size w w' := by
  have OA := Lib.hid (((Own.new w (stA s fv sv ov kv) 46).alloc (.cells (iA x) 49)).alloc (.cells stZ.toArray 46))
  have OX := Lib.hid ((Own.newAt (w.alloc (.cells (stA s fv sv ov kv) 46)) (iA x) 49 (b := w.heap.size + 1) (by simp)).alloc (.cells stZ.toArray 46))
  have OT := Lib.hid (Own.newAt ((w.alloc (.cells (stA s fv sv ov kv) 46)).alloc (.cells (iA x) 49)) stZ.toArray 46 (b := w.heap.size + 1 + 1) (by simp))
  have BEL := Lib.hid ((((Below.refl w.heap.size w).alloc (Nat.le_refl _) (.cells (stA s fv sv ov kv) 46)).alloc (by simp) (.cells (iA x) 49)).alloc (by simp; omega) (.cells stZ.toArray 46))
  have HW := Lib.hid hS
  have HOK1 := Lib.hid hS.ls.oks
  have HOK2 := Lib.hid hS.lo.oks
  have D1 := fun w' h => Lib.hid (refDrop_calls s.store x.id sv w' h (by omega))
  have D2 := fun w' h => Lib.hid (refDrop_calls s.out x.id ov w' h (by omega))
  have P1 := fun v w' h => Lib.hid (refPut_calls (s.store.filter (neB x.id)) x v w' h (Nat.le_trans (List.length_filter_le _ _) (by omega)))
  have P2 := fun v w' h => Lib.hid (refPut_calls (s.out.filter (neB x.id)) x v w' h (Nat.le_trans (List.length_filter_le _ _) (by omega)))
  have C := fun w' h => Lib.hid (hasT_calls x hx.1 s.f fv w' h hf)
  clear hS
  have lOA := OA.out.cell
  have zOA := OA.out.lt
  have lOX := OX.out.cell
  have zOX := OX.out.lt
  have fOA := OA.out.free 6
  go_enter Tryz.func50, Tryz.ntmps50
  go_upto_region 2 with (first | (go_at_call 53; with_reducible refine (D1 _ (HW.out.ls.since BEL.out)).out.mono ?_; rintro e w1 ⟨v1, rfl, hr, hb⟩; obtain ⟨o1, c1, rfl⟩ := hr.len; have L1 := Lib.hid ((OwnI.rowF hr (fun i hi => HOK1.out i (List.mem_filter.1 hi).1)).mono (B' := w.heap.size + 1 + 1 + 1) (by simp; try omega)); replace OA := Lib.hid (OA.out.later hb); replace OX := Lib.hid (OX.out.later hb); replace OT := Lib.hid (OT.out.later hb); replace BEL := Lib.hid (BEL.out.trans (hb.mono BEL.out.size)); clear hb hr; replace lOA := OA.out.cell; replace zOA := OA.out.lt; replace fOA := OA.out.free 6; replace lOX := OX.out.cell; replace zOX := OX.out.lt) | fail)
  have HP := Lib.hid (show Own (w1.setCell ⟨w.heap.size, 6, none⟩ (.slice o1 (s.store.filter (neB x.id)).length c1)) w.heap.size (stA s fv (.slice o1 (s.store.filter (neB x.id)).length c1) ov kv) 46 ∧ Own (w1.setCell ⟨w.heap.size, 6, none⟩ (.slice o1 (s.store.filter (neB x.id)).length c1)) (w.heap.size + 1) (iA x) 49 ∧ Own (w1.setCell ⟨w.heap.size, 6, none⟩ (.slice o1 (s.store.filter (neB x.id)).length c1)) (w.heap.size + 1 + 1) stZ.toArray 46 ∧ Below w.heap.size w (w1.setCell ⟨w.heap.size, 6, none⟩ (.slice o1 (s.store.filter (neB x.id)).length c1)) ∧ RowF (w1.setCell ⟨w.heap.size, 6, none⟩ (.slice o1 (s.store.filter (neB x.id)).length c1)) (w.heap.size + 1 + 1 + 1) (s.store.filter (neB x.id)) (.slice o1 (s.store.filter (neB x.id)).length c1) from ⟨by rw [← stA_set6 s fv sv ov kv (.slice o1 (s.store.filter (neB x.id)).length c1)]; exact OA.out.set 6 _, OX.out.setFar _ _ (by show w.heap.size + 1 ≠ w.heap.size; omega), OT.out.setFar _ _ (by show w.heap.size + 1 + 1 ≠ w.heap.size; omega), BEL.out.setCell (p := ⟨w.heap.size, 6, none⟩) (Nat.le_refl _) _, L1.out.set (by omega) _⟩)
  clear OA OX OT BEL L1 lOA zOA fOA lOX zOX
  revert HP
  generalize w1.setCell ⟨w.heap.size, 6, none⟩ (.slice o1 (s.store.filter (neB x.id)).length c1) = W1
  intro HP
  obtain ⟨oa_, ox_, ot_, be_, r0_⟩ := HP.out
  have OA := Lib.hid oa_
  have OX := Lib.hid ox_
  have OT := Lib.hid ot_
  have BEL := Lib.hid be_
  have L1 := Lib.hid r0_
  clear oa_ ox_ ot_ be_ r0_ HP
  have lOA := OA.out.cell
  have zOA := OA.out.lt
  have fOA := OA.out.free 7
  have lOX := OX.out.cell
  have zOX := OX.out.lt
  go_upto_region 3 with (first | (go_at_call 53; with_reducible refine (D2 _ (HW.out.lo.since BEL.out)).out.mono ?_; rintro e w2 ⟨v2, rfl, hr, hb⟩; obtain ⟨o2, c2, rfl⟩ := hr.len; have L2 := Lib.hid ((OwnI.rowF hr (fun i hi => HOK2.out i (List.mem_filter.1 hi).1)).mono (B' := w.heap.size + 1 + 1 + 1) (by have := OT.out.lt; omega)); replace OA := Lib.hid (OA.out.later hb); replace OX := Lib.hid (OX.out.later hb); replace OT := Lib.hid (OT.out.later hb); replace BEL := Lib.hid (BEL.out.trans (hb.mono BEL.out.size)); replace L1 := Lib.hid (L1.out.later hb); clear hb hr; replace lOA := OA.out.cell; replace zOA := OA.out.lt; replace fOA := OA.out.free 7; replace lOX := OX.out.cell; replace zOX := OX.out.lt) | fail)
  have HP := Lib.hid (show Own (w2.setCell ⟨w.heap.size, 7, none⟩ (.slice o2 (s.out.filter (neB x.id)).length c2)) w.heap.size (stA s fv (.slice o1 (s.store.filter (neB x.id)).length c1) (.slice o2 (s.out.filter (neB x.id)).length c2) kv) 46 ∧ Own (w2.setCell ⟨w.heap.size, 7, none⟩ (.slice o2 (s.out.filter (neB x.id)).length c2)) (w.heap.size + 1) (iA x) 49 ∧ Own (w2.setCell ⟨w.heap.size, 7, none⟩ (.slice o2 (s.out.filter (neB x.id)).length c2)) (w.heap.size + 1 + 1) stZ.toArray 46 ∧ Below w.heap.size w (w2.setCell ⟨w.heap.size, 7, none⟩ (.slice o2 (s.out.filter (neB x.id)).length c2)) ∧ RowF (w2.setCell ⟨w.heap.size, 7, none⟩ (.slice o2 (s.out.filter (neB x.id)).length c2)) (w.heap.size + 1 + 1 + 1) (s.store.filter (neB x.id)) (.slice o1 (s.store.filter (neB x.id)).length c1) ∧ RowF (w2.setCell ⟨w.heap.size, 7, none⟩ (.slice o2 (s.out.filter (neB x.id)).length c2)) (w.heap.size + 1 + 1 + 1) (s.out.filter (neB x.id)) (.slice o2 (s.out.filter (neB x.id)).length c2) from ⟨by rw [← stA_set7 s fv (.slice o1 (s.store.filter (neB x.id)).length c1) ov kv (.slice o2 (s.out.filter (neB x.id)).length c2)]; exact OA.out.set 7 _, OX.out.setFar _ _ (by show w.heap.size + 1 ≠ w.heap.size; omega), OT.out.setFar _ _ (by show w.heap.size + 1 + 1 ≠ w.heap.size; omega), BEL.out.setCell (p := ⟨w.heap.size, 7, none⟩) (Nat.le_refl _) _, L1.out.set (by omega) _, L2.out.set (by omega) _⟩)
  clear OA OX OT BEL L1 L2 lOA zOA fOA lOX zOX
  revert HP
  generalize w2.setCell ⟨w.heap.size, 7, none⟩ (.slice o2 (s.out.filter (neB x.id)).length c2) = W2
  intro HP
  obtain ⟨oa_, ox_, ot_, be_, r0_, r1_⟩ := HP.out
  have OA := Lib.hid oa_
  have OX := Lib.hid ox_
  have OT := Lib.hid ot_
  have BEL := Lib.hid be_
  have L1 := Lib.hid r0_
  have L2 := Lib.hid r1_
  clear oa_ ox_ ot_ be_ r0_ r1_ HP
  have lOA := OA.out.cell
  have zOA := OA.out.lt
  have fOA := OA.out.free 6
  have lOX := OX.out.cell
  have zOX := OX.out.lt
  clear D1 D2
  go_upto_region 4 with (first | (go_at_call 48; with_reducible refine (C _ (HW.out.lf.later BEL.out (Nat.le_refl _))).out.mono ?_; rintro e w3 ⟨rfl, hb⟩; replace OA := Lib.hid (OA.out.later hb); replace OX := Lib.hid (OX.out.later hb); replace OT := Lib.hid (OT.out.later hb); replace BEL := Lib.hid (BEL.out.trans (hb.mono BEL.out.size)); replace L1 := Lib.hid (L1.out.later hb); replace L2 := Lib.hid (L2.out.later hb); clear hb; replace lOA := OA.out.cell; replace zOA := OA.out.lt; replace fOA := OA.out.free 6; replace lOX := OX.out.cell; replace zOX := OX.out.lt) | fail)
  clear C
  cases ht : hasT s.f x
  case false =>
    cases keep
    · go_upto_region 8 with fail
      clear lOA zOA fOA lOX zOX P1 P2
      have hfv : fv.oneCell' = true := lies_one HW.out.lf
      have hkv : kv.oneCell' = true := by obtain ⟨_, _, e⟩ := HW.out.lk.val; rw [e]; rfl
      unfold Value.oneCell' at hfv hkv
      have HK := Lib.hid (And.intro (OT.out.sets (stA s fv (.slice o1 (s.store.filter (neB x.id)).length c1) (.slice o2 (s.out.filter (neB x.id)).length c2) kv).toList (by rfl)) (And.intro (below_sets (b := w.heap.size + 1 + 1) (by omega) (stA s fv (.slice o1 (s.store.filter (neB x.id)).length c1) (.slice o2 (s.out.filter (neB x.id)).length c2) kv).toList 0 BEL.out) (And.intro (L1.out.sets (b := w.heap.size + 1 + 1) (by omega) (stA s fv (.slice o1 (s.store.filter (neB x.id)).length c1) (.slice o2 (s.out.filter (neB x.id)).length c2) kv).toList 0) (L2.out.sets (b := w.heap.size + 1 + 1) (by omega) (stA s fv (.slice o1 (s.store.filter (neB x.id)).length c1) (.slice o2 (s.out.filter (neB x.id)).length c2) kv).toList 0))))
      have OAR := Lib.hid OA.out
      have OTR := Lib.hid OT.out
      go_wp2_with (first | (refine wpList_load_mid (by rfl) 46 _ (by rfl) w.heap.size 0 (by rfl) (stA s fv (.slice o1 (s.store.filter (neB x.id)).length c1) (.slice o2 (s.out.filter (neB x.id)).length c2) kv).toList _ OAR.out.range Tryz.underlying46 (by rfl) (by kernel_rfl) ?_) | (refine wpList_store_mid (by rfl) 46 _ _ (by rfl) (w.heap.size + 1 + 1) 0 (stA s fv (.slice o1 (s.store.filter (neB x.id)).length c1) (.slice o2 (s.out.filter (neB x.id)).length c2) kv) (by rfl) (by rfl) (OTR.out.there (by rfl)) (by kernel_rfl) (by simp [Value.oneCell', hfv, hkv]) ?_) | fail)
      revert HK
      generalize World.setCells _ _ _ _ = WW
      intro HK
      refine ret_cell (by rfl) (by rfl) (l := (stA s fv (.slice o1 (s.store.filter (neB x.id)).length c1) (.slice o2 (s.out.filter (neB x.id)).length c2) kv).toList) HK.out.1.range Tryz.underlying46 (by rfl) (by kernel_rfl) rfl ⟨(.slice o1 (s.store.filter (neB x.id)).length c1), (.slice o2 (s.out.filter (neB x.id)).length c2), rfl, ⟨⟨HW.out.lf.later HK.out.2.1 (Nat.le_refl _), by show Row 8 ic _ (laidStore s x) _; unfold laidStore; rw [if_neg (by rw [ht]; simp)]; exact HK.out.2.2.1.row, by show Row 8 ic _ (laidOut s x _) _; unfold laidOut; rw [if_neg (by rw [ht]; simp), if_neg (by simp)]; exact HK.out.2.2.2.row, HW.out.lk.later HK.out.2.1 (Nat.le_refl _)⟩, by show RowF _ _ (laidStore s x) _; unfold laidStore; rw [if_neg (by rw [ht]; simp)]; exact HK.out.2.2.1.mono (by omega), by show RowF _ _ (laidOut s x _) _; unfold laidOut; rw [if_neg (by rw [ht]; simp), if_neg (by simp)]; exact HK.out.2.2.2.mono (by omega)⟩, HK.out.2.1⟩
    · replace fOA := OA.out.free 7
      go_upto_region 8 with (first | (go_at_call 105; with_reducible refine (P2 _ _ L2.out.row).out.mono ?_; rintro e w4 ⟨v3, rfl, hr, hb⟩; obtain ⟨o3, c3, rfl⟩ := hr.len; have L3 := Lib.hid ((OwnI.rowF hr (fun i hi => by rcases put_mem hi with h | h; exact HOK2.out i (List.mem_filter.1 h).1; rw [h]; exact hx)).mono (B' := w.heap.size + 1 + 1 + 1) (by have := OT.out.lt; omega)); replace OA := Lib.hid (OA.out.later hb); replace OX := Lib.hid (OX.out.later hb); replace OT := Lib.hid (OT.out.later hb); replace BEL := Lib.hid (BEL.out.trans (hb.mono BEL.out.size)); replace L1 := Lib.hid (L1.out.later hb); replace L2 := Lib.hid (L2.out.later hb); clear hb hr; replace lOA := OA.out.cell; replace zOA := OA.out.lt; replace fOA := OA.out.free 7; replace lOX := OX.out.cell; replace zOX := OX.out.lt) | fail)
      have HP := Lib.hid (show Own (w4.setCell ⟨w.heap.size, 7, none⟩ (.slice o3 (putI (s.out.filter (neB x.id)) x).length c3)) w.heap.size (stA s fv (.slice o1 (s.store.filter (neB x.id)).length c1) (.slice o3 (putI (s.out.filter (neB x.id)) x).length c3) kv) 46 ∧ Own (w4.setCell ⟨w.heap.size, 7, none⟩ (.slice o3 (putI (s.out.filter (neB x.id)) x).length c3)) (w.heap.size + 1) (iA x) 49 ∧ Own (w4.setCell ⟨w.heap.size, 7, none⟩ (.slice o3 (putI (s.out.filter (neB x.id)) x).length c3)) (w.heap.size + 1 + 1) stZ.toArray 46 ∧ Below w.heap.size w (w4.setCell ⟨w.heap.size, 7, none⟩ (.slice o3 (putI (s.out.filter (neB x.id)) x).length c3)) ∧ RowF (w4.setCell ⟨w.heap.size, 7, none⟩ (.slice o3 (putI (s.out.filter (neB x.id)) x).length c3)) (w.heap.size + 1 + 1 + 1) (s.store.filter (neB x.id)) (.slice o1 (s.store.filter (neB x.id)).length c1) ∧ RowF (w4.setCell ⟨w.heap.size, 7, none⟩ (.slice o3 (putI (s.out.filter (neB x.id)) x).length c3)) (w.heap.size + 1 + 1 + 1) (putI (s.out.filter (neB x.id)) x) (.slice o3 (putI (s.out.filter (neB x.id)) x).length c3) from ⟨by rw [← stA_set7 s fv (.slice o1 (s.store.filter (neB x.id)).length c1) (.slice o2 (s.out.filter (neB x.id)).length c2) kv (.slice o3 (putI (s.out.filter (neB x.id)) x).length c3)]; exact OA.out.set 7 _, OX.out.setFar _ _ (by show w.heap.size + 1 ≠ w.heap.size; omega), OT.out.setFar _ _ (by show w.heap.size + 1 + 1 ≠ w.heap.size; omega), BEL.out.setCell (p := ⟨w.heap.size, 7, none⟩) (Nat.le_refl _) _, L1.out.set (by omega) _, L3.out.set (by omega) _⟩)
      clear OA OX OT BEL L1 L3 lOA zOA fOA lOX zOX
      revert HP
      generalize w4.setCell ⟨w.heap.size, 7, none⟩ (.slice o3 (putI (s.out.filter (neB x.id)) x).length c3) = W4
      intro HP
      obtain ⟨oa_, ox_, ot_, be_, r0_, r1_⟩ := HP.out
      have OA := Lib.hid oa_
      have OX := Lib.hid ox_
      have OT := Lib.hid ot_
      have BEL := Lib.hid be_
      have L1 := Lib.hid r0_
      have L3 := Lib.hid r1_
      clear oa_ ox_ ot_ be_ r0_ r1_ HP
      clear P1 P2
      have hfv : fv.oneCell' = true := lies_one HW.out.lf
      have hkv : kv.oneCell' = true := by obtain ⟨_, _, e⟩ := HW.out.lk.val; rw [e]; rfl
      unfold Value.oneCell' at hfv hkv
      have HK := Lib.hid (And.intro (OT.out.sets (stA s fv (.slice o1 (s.store.filter (neB x.id)).length c1) (.slice o3 (putI (s.out.filter (neB x.id)) x).length c3) kv).toList (by rfl)) (And.intro (below_sets (b := w.heap.size + 1 + 1) (by omega) (stA s fv (.slice o1 (s.store.filter (neB x.id)).length c1) (.slice o3 (putI (s.out.filter (neB x.id)) x).length c3) kv).toList 0 BEL.out) (And.intro (L1.out.sets (b := w.heap.size + 1 + 1) (by omega) (stA s fv (.slice o1 (s.store.filter (neB x.id)).length c1) (.slice o3 (putI (s.out.filter (neB x.id)) x).length c3) kv).toList 0) (L3.out.sets (b := w.heap.size + 1 + 1) (by omega) (stA s fv (.slice o1 (s.store.filter (neB x.id)).length c1) (.slice o3 (putI (s.out.filter (neB x.id)) x).length c3) kv).toList 0))))
      have OAR := Lib.hid OA.out
      have OTR := Lib.hid OT.out
      go_wp2_with (first | (refine wpList_load_mid (by rfl) 46 _ (by rfl) w.heap.size 0 (by rfl) (stA s fv (.slice o1 (s.store.filter (neB x.id)).length c1) (.slice o3 (putI (s.out.filter (neB x.id)) x).length c3) kv).toList _ OAR.out.range Tryz.underlying46 (by rfl) (by kernel_rfl) ?_) | (refine wpList_store_mid (by rfl) 46 _ _ (by rfl) (w.heap.size + 1 + 1) 0 (stA s fv (.slice o1 (s.store.filter (neB x.id)).length c1) (.slice o3 (putI (s.out.filter (neB x.id)) x).length c3) kv) (by rfl) (by rfl) (OTR.out.there (by rfl)) (by kernel_rfl) (by simp [Value.oneCell', hfv, hkv]) ?_) | fail)
      revert HK
      generalize World.setCells _ _ _ _ = WW
      intro HK
      refine ret_cell (by rfl) (by rfl) (l := (stA s fv (.slice o1 (s.store.filter (neB x.id)).length c1) (.slice o3 (putI (s.out.filter (neB x.id)) x).length c3) kv).toList) HK.out.1.range Tryz.underlying46 (by rfl) (by kernel_rfl) rfl ⟨(.slice o1 (s.store.filter (neB x.id)).length c1), (.slice o3 (putI (s.out.filter (neB x.id)) x).length c3), rfl, ⟨⟨HW.out.lf.later HK.out.2.1 (Nat.le_refl _), by show Row 8 ic _ (laidStore s x) _; unfold laidStore; rw [if_neg (by rw [ht]; simp)]; exact HK.out.2.2.1.row, by show Row 8 ic _ (laidOut s x _) _; unfold laidOut; rw [if_neg (by rw [ht]; simp), if_pos rfl]; exact HK.out.2.2.2.row, HW.out.lk.later HK.out.2.1 (Nat.le_refl _)⟩, by show RowF _ _ (laidStore s x) _; unfold laidStore; rw [if_neg (by rw [ht]; simp)]; exact HK.out.2.2.1.mono (by omega), by show RowF _ _ (laidOut s x _) _; unfold laidOut; rw [if_neg (by rw [ht]; simp), if_pos rfl]; exact HK.out.2.2.2.mono (by omega)⟩, HK.out.2.1⟩
  case true =>
    go_upto_region 8 with (first | (go_at_call 105; with_reducible refine (P1 _ _ L1.out.row).out.mono ?_; rintro e w4 ⟨v3, rfl, hr, hb⟩; obtain ⟨o3, c3, rfl⟩ := hr.len; have L3 := Lib.hid ((OwnI.rowF hr (fun i hi => by rcases put_mem hi with h | h; exact HOK1.out i (List.mem_filter.1 h).1; rw [h]; exact hx)).mono (B' := w.heap.size + 1 + 1 + 1) (by have := OT.out.lt; omega)); replace OA := Lib.hid (OA.out.later hb); replace OX := Lib.hid (OX.out.later hb); replace OT := Lib.hid (OT.out.later hb); replace BEL := Lib.hid (BEL.out.trans (hb.mono BEL.out.size)); replace L1 := Lib.hid (L1.out.later hb); replace L2 := Lib.hid (L2.out.later hb); clear hb hr; replace lOA := OA.out.cell; replace zOA := OA.out.lt; replace fOA := OA.out.free 6; replace lOX := OX.out.cell; replace zOX := OX.out.lt) | fail)
    have HP := Lib.hid (show Own (w4.setCell ⟨w.heap.size, 6, none⟩ (.slice o3 (putI (s.store.filter (neB x.id)) x).length c3)) w.heap.size (stA s fv (.slice o3 (putI (s.store.filter (neB x.id)) x).length c3) (.slice o2 (s.out.filter (neB x.id)).length c2) kv) 46 ∧ Own (w4.setCell ⟨w.heap.size, 6, none⟩ (.slice o3 (putI (s.store.filter (neB x.id)) x).length c3)) (w.heap.size + 1) (iA x) 49 ∧ Own (w4.setCell ⟨w.heap.size, 6, none⟩ (.slice o3 (putI (s.store.filter (neB x.id)) x).length c3)) (w.heap.size + 1 + 1) stZ.toArray 46 ∧ Below w.heap.size w (w4.setCell ⟨w.heap.size, 6, none⟩ (.slice o3 (putI (s.store.filter (neB x.id)) x).length c3)) ∧ RowF (w4.setCell ⟨w.heap.size, 6, none⟩ (.slice o3 (putI (s.store.filter (neB x.id)) x).length c3)) (w.heap.size + 1 + 1 + 1) (s.out.filter (neB x.id)) (.slice o2 (s.out.filter (neB x.id)).length c2) ∧ RowF (w4.setCell ⟨w.heap.size, 6, none⟩ (.slice o3 (putI (s.store.filter (neB x.id)) x).length c3)) (w.heap.size + 1 + 1 + 1) (putI (s.store.filter (neB x.id)) x) (.slice o3 (putI (s.store.filter (neB x.id)) x).length c3) from ⟨by rw [← stA_set6 s fv (.slice o1 (s.store.filter (neB x.id)).length c1) (.slice o2 (s.out.filter (neB x.id)).length c2) kv (.slice o3 (putI (s.store.filter (neB x.id)) x).length c3)]; exact OA.out.set 6 _, OX.out.setFar _ _ (by show w.heap.size + 1 ≠ w.heap.size; omega), OT.out.setFar _ _ (by show w.heap.size + 1 + 1 ≠ w.heap.size; omega), BEL.out.setCell (p := ⟨w.heap.size, 6, none⟩) (Nat.le_refl _) _, L2.out.set (by omega) _, L3.out.set (by omega) _⟩)
    clear OA OX OT BEL L2 L3 lOA zOA fOA lOX zOX
    revert HP
    generalize w4.setCell ⟨w.heap.size, 6, none⟩ (.slice o3 (putI (s.store.filter (neB x.id)) x).length c3) = W4
    intro HP
    obtain ⟨oa_, ox_, ot_, be_, r0_, r1_⟩ := HP.out
    have OA := Lib.hid oa_
    have OX := Lib.hid ox_
    have OT := Lib.hid ot_
    have BEL := Lib.hid be_
    have L2 := Lib.hid r0_
    have L3 := Lib.hid r1_
    clear oa_ ox_ ot_ be_ r0_ r1_ HP
    clear P1 P2
    have hfv : fv.oneCell' = true := lies_one HW.out.lf
    have hkv : kv.oneCell' = true := by obtain ⟨_, _, e⟩ := HW.out.lk.val; rw [e]; rfl
    unfold Value.oneCell' at hfv hkv
    have HK := Lib.hid (And.intro (OT.out.sets (stA s fv (.slice o3 (putI (s.store.filter (neB x.id)) x).length c3) (.slice o2 (s.out.filter (neB x.id)).length c2) kv).toList (by rfl)) (And.intro (below_sets (b := w.heap.size + 1 + 1) (by omega) (stA s fv (.slice o3 (putI (s.store.filter (neB x.id)) x).length c3) (.slice o2 (s.out.filter (neB x.id)).length c2) kv).toList 0 BEL.out) (And.intro (L3.out.sets (b := w.heap.size + 1 + 1) (by omega) (stA s fv (.slice o3 (putI (s.store.filter (neB x.id)) x).length c3) (.slice o2 (s.out.filter (neB x.id)).length c2) kv).toList 0) (L2.out.sets (b := w.heap.size + 1 + 1) (by omega) (stA s fv (.slice o3 (putI (s.store.filter (neB x.id)) x).length c3) (.slice o2 (s.out.filter (neB x.id)).length c2) kv).toList 0))))
    have OAR := Lib.hid OA.out
    have OTR := Lib.hid OT.out
    go_wp2_with (first | (refine wpList_load_mid (by rfl) 46 _ (by rfl) w.heap.size 0 (by rfl) (stA s fv (.slice o3 (putI (s.store.filter (neB x.id)) x).length c3) (.slice o2 (s.out.filter (neB x.id)).length c2) kv).toList _ OAR.out.range Tryz.underlying46 (by rfl) (by kernel_rfl) ?_) | (refine wpList_store_mid (by rfl) 46 _ _ (by rfl) (w.heap.size + 1 + 1) 0 (stA s fv (.slice o3 (putI (s.store.filter (neB x.id)) x).length c3) (.slice o2 (s.out.filter (neB x.id)).length c2) kv) (by rfl) (by rfl) (OTR.out.there (by rfl)) (by kernel_rfl) (by simp [Value.oneCell', hfv, hkv]) ?_) | fail)
    revert HK
    generalize World.setCells _ _ _ _ = WW
    intro HK
    refine ret_cell (by rfl) (by rfl) (l := (stA s fv (.slice o3 (putI (s.store.filter (neB x.id)) x).length c3) (.slice o2 (s.out.filter (neB x.id)).length c2) kv).toList) HK.out.1.range Tryz.underlying46 (by rfl) (by kernel_rfl) rfl ⟨(.slice o3 (putI (s.store.filter (neB x.id)) x).length c3), (.slice o2 (s.out.filter (neB x.id)).length c2), rfl, ⟨⟨HW.out.lf.later HK.out.2.1 (Nat.le_refl _), by show Row 8 ic _ (laidStore s x) _; unfold laidStore; rw [if_pos ht]; exact HK.out.2.2.1.row, by show Row 8 ic _ (laidOut s x _) _; unfold laidOut; rw [if_pos ht]; exact HK.out.2.2.2.row, HW.out.lk.later HK.out.2.1 (Nat.le_refl _)⟩, by show RowF _ _ (laidStore s x) _; unfold laidStore; rw [if_pos ht]; exact HK.out.2.2.1.mono (by omega), by show RowF _ _ (laidOut s x _) _; unfold laidOut; rw [if_pos ht]; exact HK.out.2.2.2.mono (by omega)⟩, HK.out.2.1⟩
end Go.Proofs.YtjkcooakddlppaaGreat
