/- Two disks in one world. No walk. -/
import Derived.Test.YteofkbidahefeaaDskUp
namespace Go.Proofs.Yteofkbidahefeaa
set_option linter.unusedVariables false
set_option linter.unusedSimpArgs false
set_option maxRecDepth 100000
open Go.RowKit

/-- Two rows of bytes lie in unlike blocks. -/
def ApartV (v u : Value) : Prop := ∀ j, v.ownBlock = some j → u.ownBlock ≠ some j
theorem ApartV.symm {v u : Value} (h : ApartV v u) : ApartV u v := fun j hu hv => h j hv hu
theorem apart_nil (u : Value) : ApartV (.slice none 0 0) u := fun j h => by cases h
theorem own_ty_ne {w : World} {b g : Nat} {c C : Array Value} {t tb : TypeId} (h : Own w b c tb) (h' : Own w g C t) (hne : t ≠ tb) : b ≠ g := by
  rintro rfl
  have := h.blk
  rw [h'.blk] at this
  simp only [Option.some.injEq, Obj.cells.injEq] at this
  exact hne this.2.1
section
variable {w w1 : World} {base g b : Nat} {C C' Cm : Array Value} {t tm : TypeId} {l l' lm : List Nat} {v v' u : Value}
/-- Another block stays. -/
theorem Own.beside {c : Array Value} (ho : Own w b c tm) (hg : Bx w base g C t l v) (h : BxT base g v w w1 C' t l' v') (h1 : t ≠ tm) (h2 : 5 ≠ tm) : Own w1 b c tm :=
  ho.but h.but fun e => by
    rcases e with e | e
    · exact own_ty_ne ho hg.o h1 e
    · exact own_by_ne hg.row ho h2 e
theorem OwnB.beside {bs : Nat} (hr : OwnB w bs lm u) (hg : Bx w base g C t l v) (h : BxT base g v w w1 C' t l' v') (h3 : 5 ≠ t) (ha : ApartV v u) : OwnB w1 bs lm u := by
  refine ⟨hr.1, ?_⟩
  rcases hr.2 with h0 | ⟨q, cap, cur, rfl, hb, hq, r⟩
  · exact .inl h0
  · refine .inr ⟨q, cap, cur, rfl, hb, ?_, r⟩
    have hlt : q < w.heap.size := (Array.getElem?_eq_some_iff.1 hq).1
    refine (h.but.blk q hlt fun e => ?_).trans hq
    rcases e with e | e
    · have := hg.o.blk
      rw [← e, hq] at this
      simp only [Option.some.injEq, Obj.cells.injEq] at this
      exact h3 this.2.1
    · exact ha q e.symm rfl
/-- The other disk stays. -/
theorem Bx.beside (hm : Bx w base b Cm tm lm u) (hg : Bx w base g C t l v) (h : BxT base g v w w1 C' t l' v') (h1 : t ≠ tm) (h2 : 5 ≠ tm) (h3 : 5 ≠ t) (ha : ApartV v u) : Bx w1 base b Cm tm lm u ∧ ApartV v' u := by
  refine ⟨⟨hm.o.beside hg h h1 h2, hm.ge, hm.row.beside hg h h3 ha, hm.ok⟩, fun j hj hu => ?_⟩
  rcases h.same j hj with e | e
  · exact ha j e hu
  · have := (World.ownsRow.lt hm.row j hu).2
    omega
end
theorem Bx.mono {w : World} {base base' g : Nat} {C : Array Value} {t : TypeId} {l : List Nat} {v : Value} (h : Bx w base g C t l v) (hb : base' ≤ base) : Bx w base' g C t l v := ⟨h.o, Nat.le_trans hb h.ge, h.row.mono hb, h.ok⟩
theorem notIn_old {w : World} {g : Nat} {l : List Nat} {v : Value} (h : ByW w l v) (hg : w.heap.size ≤ g) : NotIn g l v := by
  intro oa n c e a ha h0
  obtain ⟨oa', cap, b, o, e2, h⟩ := h
  rw [e] at e2; cases e2
  obtain ⟨h1, h2⟩ := h.at0 h0
  rw [ha] at h1; cases h1
  show b ≠ g
  omega
theorem dk_dd : 47 ≠ 32 := by decide
theorem dd_ne : 5 ≠ 32 := by decide
theorem dk_dm : 47 ≠ 28 := by decide

theorem add_len (d : Dk) (m : List Nat) : (addD d m).l.length ≤ d.l.length + m.length := by
  unfold addD
  split
  · omega
  · split
    · simp
    · split <;> simp; omega
theorem add_ok {d : Dk} (h : d.okF) (m : List Nat) : (addD d m).okF := by
  unfold addD
  split
  · exact h
  · split
    · intro n hn; cases hn
    · rename_i k hk
      split
      · intro n hn; cases hn; have := h k hk; omega
      · intro n hn; cases hn
theorem fuse_len (d : Dk) (n : Int) : (fuseD d n).l = d.l := by unfold fuseD; split; rfl; split <;> rfl
theorem fuse_ok {d : Dk} (h : d.okF) {n : Int} (hn : n ≤ 9223372036854775807) : (fuseD d n).okF := by
  unfold fuseD
  split
  · exact h
  · split
    · exact h
    · intro k hk; cases hk; omega
theorem cut_len (d : Dk) (n : Int) : (cutD d n).l.length ≤ d.l.length := by
  unfold cutD
  split
  · omega
  · split
    · omega
    · simp; omega
theorem cut_ok {d : Dk} (h : d.okF) (n : Int) : (cutD d n).okF := by
  unfold cutD
  split
  · exact h
  · split
    · exact h
    · exact h
theorem up_ok (d : Dk) : (upD d).okF := fun n hn => by cases hn
theorem new_ok : newDk.okF := fun n hn => by cases hn
theorem addE_le (d : Dk) (m : List Nat) : addE d m ≤ 10 := by
  unfold addE
  split
  · omega
  · split
    · omega
    · split <;> omega
theorem fuseE_le (d : Dk) (n : Int) : fuseE d n ≤ 10 := by unfold fuseE; split; omega; split <;> omega
theorem cutE_le (d : Dk) (n : Int) : cutE d n ≤ 10 := by unfold cutE; split; omega; split <;> omega

theorem byW_but0 {w w' : World} {l : List Nat} {v : Value} (h : ByW w l v) (hb : But (fun _ => False) w w') : ByW w' l v := by
  obtain ⟨oa, cap, b, o, e, h⟩ := h
  refine ⟨oa, cap, b, o, e, h.len, h.max, fun h0 => ⟨(h.at0 h0).1, Nat.lt_of_lt_of_le (h.at0 h0).2 hb.size⟩, fun k n hk => ?_, h.ok⟩
  have h0 : 0 < l.length := by have := posB hk; omega
  exact (World.cell?_of_block (w := w) (a := ⟨b, o + k, none⟩) (hb.blk b (h.at0 h0).2 (fun h => h))).trans (h.cell k n hk)
/-- Two disks that are alike. -/
structure Two (d : Dk) (base g b : Nat) (v u : Value) (wr : World) : Prop where
  f : d.okF
  c : Bx wr base g (dkA d v) 47 d.l v
  m : Bx wr base b (dmA d u) 28 d.l u
  a : ApartV v u
/-- Both were done the same with: behind the first. -/
theorem Two.mid {d d' : Dk} {base g b : Nat} {v u v' : Value} {w w1 : World} (T : Two d base g b v u w) (ht : BxT base g v w w1 (dkA d' v') 47 d'.l v') : Bx w1 base b (dmA d u) 28 d.l u ∧ ApartV v' u := T.m.beside T.c ht dk_dm dm_ne dk_ne T.a
theorem Two.step {d' : Dk} {base g b : Nat} {C : Array Value} {l : List Nat} {v' u u' : Value} {w1 w2 : World} (hf : d'.okF) (hc : Bx w1 base g (dkA d' v') 47 d'.l v') (hm : Bx w1 base b C 28 l u ∧ ApartV v' u) (ht : BxT base b u w1 w2 (dmA d' u') 28 d'.l u') : Two d' base g b v' u' w2 := by
  obtain ⟨h1, h2⟩ := hc.beside hm.1 ht dk_dm.symm dk_ne dm_ne hm.2.symm
  exact ⟨hf, h1, ht.bx, h2.symm⟩
theorem own_cur {w : World} {base : Nat} {l : List Nat} {q n cap : Nat} (h : OwnB w base l (.slice (some ⟨q, 0, none⟩) n cap)) : ∃ cur, Own w q cur 5 ∧ l.length ≤ cur.size := by
  rcases h.2 with ⟨e, _⟩ | ⟨g, cap', cur, e, _, hg, h1, _, h3, _⟩
  · cases e
  · cases e
    exact ⟨cur, ⟨hg⟩, by omega⟩
theorem Two.later {d : Dk} {base g b : Nat} {v u : Value} {w w' : World} (h : Two d base g b v u w) (hb : Later w w') : Two d base g b v u w' := ⟨h.f, h.c.later hb, h.m.later hb, h.a⟩

end Go.Proofs.Yteofkbidahefeaa
