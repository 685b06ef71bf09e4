/- Joined: LocRd, LocV, LocNew, LocVer. -/
import Derived.Test.YtjkcooakddlppaaGreatJ30
import Derived.Test.YtjkcooakddlppaaGreatJ28
import Derived.Test.YtjkcooakddlppaaGreatJ34
import Derived.Test.YtjkcooakddlppaaGreatJ27
import Derived.Lib.SliceRun
import Derived.Test.YtjkcooakddlppaaGreatJ21
import Derived.Test.YtjkcooakddlppaaGreatJ36
import Derived.Test.YtjkcooakddlppaaGreatJ32
import Derived.Test.YtjkcooakddlppaaGreatJ37
import Derived.Test.YtjkcooakddlppaaGreatJ20
import Derived.Test.YtjkcooakddlppaaGreatJ31
import Derived.Test.YtjkcooakddlppaaGreatJ22
import Derived.Test.YtjkcooakddlppaaGreatJ13
/- The code's Read of layer 9: slices.DeleteFunc of a copy. Walked. -/
namespace Go.Proofs.YtjkcooakddlppaaGreat
set_option linter.unusedVariables false
set_option linter.unusedSimpArgs false
set_option maxRecDepth 100000
open Go.RowKit
/-! ### clear -/
structure DfS (w : World) (B : Nat) (l : List Itm) (g cap n i j : Nat) (m : List Itm) (wr : World) : Prop where
  len : m.length = n
  head : m.take i = (l.take j).filter fun x => !x.d
  tail : m.drop j = l.drop j
  lt : i < j
  own : wr.ownsRow B 49 8 (.slice (some ⟨g, 0, none⟩) n cap) n (cellsI m)
  gr : Below B w wr
section
variable {w wr : World} {B : Nat} {l : List Itm} {g cap n i j : Nat} {m : List Itm}
theorem DfS.skip {w8 : World} {x : Itm} (h : DfS w B l g cap n i j m wr) (hx : l[j]? = some x) (hd : x.d = true) (hb : Below wr.heap.size wr w8) (hB : B ≤ wr.heap.size) : DfS w B l g cap n i (j + 1) m w8 := by
  refine ⟨h.len, ?_, ?_, by have := h.lt; omega, ownsRow_below h.own hb, h.gr.trans (hb.mono hB)⟩
  · rw [h.head, List.take_add_one, hx]
    simp [hd]
  · have := congrArg (List.drop 1) h.tail
    simpa [List.drop_drop] using this
theorem DfS.fin {zs : List Value} (h : DfS w B l g cap n i n m wr) (hl : l.length = n) (hok : ∀ i ∈ l, i.id.size ≤ maxLen ∧ i.kd.size ≤ maxLen) (hz : zs.length = (n - i) * 8) : Row 8 ic (wr.setCells g (i * 8) zs) (l.filter fun x => !x.d) (.slice (some ⟨g, 0, none⟩) i cap) ∧ Below B w (wr.setCells g (i * 8) zs) := by
  have hg := h.own.lt g rfl
  have hlt := h.lt
  have hlen := h.len
  have hhead : m.take i = l.filter fun x => !x.d := by
    have := h.head
    rw [List.take_of_length_le (l := l) (by omega)] at this
    exact this
  have hli : (l.filter fun x => !x.d).length = i := by rw [← hhead, List.length_take]; omega
  have hown := row_sets zs (i * 8) h.own (by rw [hz]; omega)
  obtain ⟨_, _, _, e0, hle, hmx, _⟩ := row_slice h.own
  cases e0
  refine ⟨⟨_, cap, g, 0, by rw [hli], ⟨by omega, ?_, fun _ => ⟨rfl, (hown.lt g rfl).2⟩, fun k y hk a u hu => ?_, fun y hy => hok y (List.mem_filter.1 hy).1⟩⟩, below_sets hg.1 _ _ h.gr⟩
  · exact hmx
  · have hki : k < i := by rw [← hli]; exact some_posI hk
    have ha : a < 8 := (List.getElem?_eq_some_iff.1 hu).1
    have e1 : m[k]? = some y := by
      rw [← hhead, List.getElem?_take, if_pos hki] at hk
      exact hk
    rw [World.cell?_setCells_out g zs (i * 8) wr ⟨g, 0 + k * 8 + a, none⟩ (fun _ _ => Or.inl (by show 0 + k * 8 + a < i * 8; omega)), Nat.zero_add, h.own.cellAt (k * 8 + a) (by omega), cellsI_get m k y e1 a ha]
    exact hu
end
end Go.Proofs.YtjkcooakddlppaaGreat
/- The code's get, fits of layer 9. Walked. -/
namespace Go.Proofs.YtjkcooakddlppaaGreat
set_option linter.unusedVariables false
set_option linter.unusedSimpArgs false
set_option maxRecDepth 100000
open Go.RowKit
end Go.Proofs.YtjkcooakddlppaaGreat
/- The code's local.New. Walked. -/
namespace Go.Proofs.YtjkcooakddlppaaGreat
set_option linter.unusedVariables false
set_option linter.unusedSimpArgs false
set_option maxRecDepth 100000
open Go.RowKit
set_option maxRecDepth 100000 in
set_option maxHeartbeats 8000000 in
theorem localNew_calls (r : Int) (f : Pr) (fv : Value) (w : World) (hL : LP w f fv) (hf : f.size ≤ 60) :
    Calls Tryz.prog 18 #[.int .i64 r, prV f fv] w (Told errI f fv zeroS (.slice none 0 0) (.slice none 0 0) (.slice none 0 0) (newT r f) (newE r f) w) := by
  obtain ⟨oq, cq, rfl⟩ := lies_val hL
  have OP := Lib.hid ((Own.new w #[.int .i64 f.op, .string f.text, .int .i64 f.n, .complex .f64 f.x f.y, .slice oq f.kids.length cq] 43).alloc (.cells stZ.toArray 46))
  have O4 := Lib.hid (Own.newAt (w.alloc (.cells #[.int .i64 f.op, .string f.text, .int .i64 f.n, .complex .f64 f.x f.y, .slice oq f.kids.length cq] 43)) stZ.toArray 46 (b := w.heap.size + 1) (by simp))
  have BE := Lib.hid (((Below.refl w.heap.size w).alloc (Nat.le_refl _) (.cells #[.int .i64 f.op, .string f.text, .int .i64 f.n, .complex .f64 f.x f.y, .slice oq f.kids.length cq] 43)).alloc (by simp) (.cells stZ.toArray 46))
  have LF := Lib.hid ((hL.atAlloc (.cells #[.int .i64 f.op, .string f.text, .int .i64 f.n, .complex .f64 f.x f.y, .slice oq f.kids.length cq] 43)).atAlloc (.cells stZ.toArray 46))
  clear hL
  have W1 := fun w' => Lib.hid (locWithin_calls r 1 8 w')
  have W2 := fun w' h => Lib.hid (predMay_calls f (.slice oq f.kids.length cq) w' h)
  have W3 := fun w' h => Lib.hid (freFilt_calls f (.slice oq f.kids.length cq) w' h (by omega))
  have HE := Lib.hid (show okNew r f = (Pr.mayB f && inB r 1 8) from rfl)
  generalize Pr.mayB f = x1 at *
  generalize inB r 1 8 = x2 at *
  have l0 := OP.out.cell
  have z0 := OP.out.lt
  cases x2
  · rw [Bool.and_false] at HE
    have EE := Lib.hid (show newT r f = zeroS ∧ newE r f = 1 from by unfold newT newE; rw [HE.out]; exact ⟨rfl, rfl⟩)
    go_enter Tryz.func18, Tryz.ntmps18
    go_wp2_with fail
    refine (W1 _).out.mono ?_
    rintro e w1 ⟨rfl, rfl⟩
    have HK := Lib.hid (And.intro (O4.out.sets stZ (by rfl)) (below_sets (b := w.heap.size + 1) (Nat.le_succ _) stZ 0 BE.out))
    go_wp2_with (first | (refine wpList_store_mid (by rfl) 46 _ _ (by rfl) (w.heap.size + 1) 0 stZ.toArray (by rfl) (by rfl) (O4.out.there (by rfl)) (by kernel_rfl) (by simp [Value.oneCell']) ?_) | fail)
    revert HK
    generalize World.setCells _ _ _ _ = WW
    intro HK
    refine ret_cell_tmp (by rfl) (by rfl) (by rfl) HK.out.1.range Tryz.underlying46 (by rfl) (by kernel_rfl) rfl ?_
    rw [EE.out.1, EE.out.2]
    exact ⟨_, _, _, _, rfl, ⟨.inr (lies_nil (by decide)), .inl ⟨rfl, rfl⟩, .inl ⟨rfl, rfl⟩, .inl ⟨rfl, rfl⟩⟩, HK.out.2⟩
  · cases x1
    · rw [Bool.and_true] at HE
      have EE := Lib.hid (show newT r f = zeroS ∧ newE r f = 1 from by unfold newT newE; rw [HE.out]; exact ⟨rfl, rfl⟩)
      go_enter Tryz.func18, Tryz.ntmps18
      go_wp2_with fail
      refine (W1 _).out.mono ?_
      rintro e w1 ⟨rfl, rfl⟩
      go_wp2_with fail
      refine (W2 _ LF.out).out.mono ?_
      rintro e w2 ⟨rfl, hb⟩
      clear l0 z0
      replace BE := Lib.hid (BE.out.trans (hb.mono BE.out.size))
      replace OP := Lib.hid (OP.out.later hb)
      replace O4 := Lib.hid (O4.out.later hb)
      replace LF := Lib.hid (LF.out.later hb (Nat.le_refl _))
      clear hb
      have l0 := OP.out.cell
      have z0 := OP.out.lt
      have HK := Lib.hid (And.intro (O4.out.sets stZ (by rfl)) (below_sets (b := w.heap.size + 1) (Nat.le_succ _) stZ 0 BE.out))
      go_wp2_with (first | (refine wpList_store_mid (by rfl) 46 _ _ (by rfl) (w.heap.size + 1) 0 stZ.toArray (by rfl) (by rfl) (O4.out.there (by rfl)) (by kernel_rfl) (by simp [Value.oneCell']) ?_) | fail)
      revert HK
      generalize World.setCells _ _ _ _ = WW
      intro HK
      refine ret_cell_tmp (by rfl) (by rfl) (by rfl) HK.out.1.range Tryz.underlying46 (by rfl) (by kernel_rfl) rfl ?_
      rw [EE.out.1, EE.out.2]
      exact ⟨_, _, _, _, rfl, ⟨.inr (lies_nil (by decide)), .inl ⟨rfl, rfl⟩, .inl ⟨rfl, rfl⟩, .inl ⟨rfl, rfl⟩⟩, HK.out.2⟩
    · rw [Bool.and_true] at HE
      have EE := Lib.hid (show newT r f = newS r f ∧ newE r f = 0 from by unfold newT newE; rw [HE.out]; exact ⟨rfl, rfl⟩)
      go_enter Tryz.func18, Tryz.ntmps18
      go_wp2_with fail
      refine (W1 _).out.mono ?_
      rintro e w1 ⟨rfl, rfl⟩
      go_wp2_with fail
      refine (W2 _ LF.out).out.mono ?_
      rintro e w2 ⟨rfl, hb⟩
      clear l0 z0
      replace BE := Lib.hid (BE.out.trans (hb.mono BE.out.size))
      replace OP := Lib.hid (OP.out.later hb)
      replace O4 := Lib.hid (O4.out.later hb)
      replace LF := Lib.hid (LF.out.later hb (Nat.le_refl _))
      clear hb
      have l0 := OP.out.cell
      have z0 := OP.out.lt
      go_wp2_with fail
      refine (W3 _ LF.out).out.mono ?_
      rintro e w3 ⟨v3, rfl, hl, hb⟩
      obtain ⟨o3, c3, rfl⟩ := lies_val hl.lp
      have L3 := Lib.hid (hl.mono' (B' := w.heap.size + 2) (by have := O4.out.lt; omega))
      clear l0 z0
      replace BE := Lib.hid (BE.out.trans (hb.mono BE.out.size))
      replace OP := Lib.hid (OP.out.later hb)
      replace O4 := Lib.hid (O4.out.later hb)
      replace LF := Lib.hid (LF.out.later hb (Nat.le_refl _))
      clear hb hl
      have HK := Lib.hid (And.intro (O4.out.sets (stN r f (.slice o3 f.kids.length c3)) (by rfl)) (below_sets (b := w.heap.size + 1) (Nat.le_succ _) (stN r f (.slice o3 f.kids.length c3)) 0 BE.out))
      have HL := Lib.hid ((L3.out.setsAt (b := w.heap.size + 1) (by omega) (stN r f (.slice o3 f.kids.length c3)) 0).mono' (B' := w.heap.size) (by omega))
      go_wp2_with (first | (refine wpList_store_mid (by rfl) 46 _ _ (by rfl) (w.heap.size + 1) 0 (stN r f (.slice o3 f.kids.length c3)).toArray (by rfl) (by rfl) (O4.out.there (by rfl)) (by kernel_rfl) (by simp [Value.oneCell']) ?_) | fail)
      revert HK HL
      generalize World.setCells _ _ _ _ = WW
      intro HK HL
      refine ret_cell_tmp (by rfl) (by rfl) (by rfl) HK.out.1.range Tryz.underlying46 (by rfl) (by kernel_rfl) rfl ?_
      rw [EE.out.1, EE.out.2]
      exact ⟨_, _, _, _, rfl, ⟨.inr HL.out, .inl ⟨rfl, rfl⟩, .inl ⟨rfl, rfl⟩, .inl ⟨rfl, rfl⟩⟩, HK.out.2⟩
end Go.Proofs.YtjkcooakddlppaaGreat
/- The code's version of layer 9: a version is made. Walked. -/
namespace Go.Proofs.YtjkcooakddlppaaGreat
set_option linter.unusedVariables false
set_option linter.unusedSimpArgs false
set_option maxRecDepth 100000
open Go.RowKit
structure VeX (w : World) (cA cX : Array Value) (X : World) : Prop where
  a : Own X w.heap.size cA 46
  x : Own X (w.heap.size + 1) cX 49
  t : Own X (w.heap.size + 2) stZ.toArray 46
  b : Below w.heap.size w X
section
variable {w X X' : World} {cA cX : Array Value}
theorem VeX.later (h : VeX w cA cX X) (hb : Below X.heap.size X X') : VeX w cA cX X' := ⟨h.a.later hb, h.x.later hb, h.t.later hb, h.b.trans (hb.mono h.b.size)⟩
theorem VeX.drew (h : VeX w cA cX X) : VeX w cA cX X.drew := ⟨h.a.drew, h.x.drew, h.t.drew, h.b.drew⟩
end
end Go.Proofs.YtjkcooakddlppaaGreat
