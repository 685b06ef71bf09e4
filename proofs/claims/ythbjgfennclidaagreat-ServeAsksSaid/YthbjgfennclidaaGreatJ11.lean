/- Joined: RefPlainK. -/
import Derived.Test.YthbjgfennclidaaGreatJ08
import Derived.Test.YthbjgfennclidaaGreatJ09
import Derived.Test.YthbjgfennclidaaGreatJ07
import Derived.Deep.RegionLaw
import Derived.Deep.DrawnRows
/- What is known, made plain: the document's answer, walked. -/
namespace Go.Proofs.YthbjgfennclidaaGreat
set_option linter.unusedVariables false
set_option linter.unusedSimpArgs false
set_option maxRecDepth 100000
open Go.RowKit
structure PlS (w0 : World) (base : Nat) (X Z : Array Value) (A : Nat → Int) (names : List ByteArray) (nv : Value) (o : List Fr) (U : Nat → Value) (Lv : Value) (wr : World) : Prop where
  o1 : Own wr w0.heap.size X 31
  o2 : Own wr (w0.heap.size + 1) Z 31
  o3 : Own wr (w0.heap.size + 1 + 1) (knA A Lv) 31
  nm : OwnT wr (w0.heap.size + 3) names nv
  nb : ∀ b, nv.ownBlock = some b → b < base
  pk : PK wr base o U Lv
  bel : Below w0.heap.size w0 wr
  hb : w0.heap.size + 3 ≤ base
  hw : base ≤ wr.heap.size
section
variable {w0 wr w' : World} {base : Nat} {X Z : Array Value} {A : Nat → Int} {names : List ByteArray} {nv : Value} {o : List Fr} {U : Nat → Value} {Lv : Value}
theorem PlS.later (h : PlS w0 base X Z A names nv o U Lv wr) (hb : Below wr.heap.size wr w') : PlS w0 base X Z A names nv o U Lv w' :=
  ⟨h.o1.later hb, h.o2.later hb, h.o3.later hb, h.nm.later hb, h.nb, h.pk.later hb, h.bel.trans (hb.mono h.bel.size), h.hb, Nat.le_trans h.hw hb.size⟩
theorem PlS.alloc (h : PlS w0 base X Z A names nv o U Lv wr) (ob : Obj) : PlS w0 base X Z A names nv o U Lv (wr.alloc ob) := h.later ((Below.refl _ _).alloc (Nat.le_refl _) _)
theorem PlS.tx (h : PlS w0 base X Z A names nv o U Lv wr) (hok : ∀ s ∈ names, s.size ≤ maxLen) : TxW wr names nv := h.nm.tx hok
theorem PlS.addF (h : PlS w0 base X Z A names nv o U Lv wr) (v : Nat → Int) {g n cap : Nat} (hn : n = o.length + 1)
    (hown : w'.ownsRow base 125 9 (.slice (some ⟨g, 0, none⟩) n cap) n (frCs U 0 o ++ fc ⟨[], v⟩ (.slice none 0 0))) (hgrow : wr.grownBy w' Lv.ownBlock) :
    PlS w0 base X Z A names nv (o ++ [⟨[], v⟩]) (updU U o.length (.slice none 0 0)) (.slice (some ⟨g, 0, none⟩) n cap) (w'.setCell ⟨w0.heap.size + 1 + 1, 8, none⟩ (.slice (some ⟨g, 0, none⟩) n cap)) := by
  have hh := h.hb
  refine ⟨(h.o1.grown hgrow (own_ne h.pk.row (by omega))).setFar _ _ (by show w0.heap.size ≠ w0.heap.size + 1 + 1; omega), (h.o2.grown hgrow (own_ne h.pk.row (by omega))).setFar _ _ (by show w0.heap.size + 1 ≠ w0.heap.size + 1 + 1; omega),
    (h.o3.grown hgrow (own_ne h.pk.row (by omega))).set 8 _, ?_, h.nb, (h.pk.pushF v hn hown hgrow).setLow (by show w0.heap.size + 1 + 1 < base; omega) _, ?_, h.hb, ?_⟩
  · have h1 : OwnT w' (w0.heap.size + 3) names nv := World.ownsRow.kept h.nm hgrow (row_apart h.nm h.pk.row ft_ne)
    exact ownsRow_setCell_below h1 (by show w0.heap.size + 1 + 1 < w0.heap.size + 3; omega) _
  · exact (h.bel.grown hgrow h.bel.size fun k hk => by have := (World.ownsRow.lt h.pk.row k hk).1; omega).setCell (by show w0.heap.size ≤ w0.heap.size + 1 + 1; omega) _
  · have := hgrow.size; have := h.hw; simp [World.setCell]; omega
theorem PlS.addT {gl nl cl : Nat} (h : PlS w0 base X Z A names nv o U (.slice (some ⟨gl, 0, none⟩) nl cl) wr) {a : Nat} {f : Fr} (hf : o[a]? = some f) (s : ByteArray) {g n cap : Nat} (hn : n = f.ids.length + 1)
    (hown : w'.ownsRow base 9 1 (.slice (some ⟨g, 0, none⟩) n cap) n (txC f.ids ++ [.string s])) (hgrow : wr.grownBy w' (U a).ownBlock) (hat : (U a).ownBlock = some g ∨ g = wr.heap.size) :
    PlS w0 base X Z A names nv (o.set a ⟨f.ids ++ [s], f.v⟩) (updU U a (.slice (some ⟨g, 0, none⟩) n cap)) (.slice (some ⟨gl, 0, none⟩) nl cl) (w'.setCell ⟨gl, a * 9, none⟩ (.slice (some ⟨g, 0, none⟩) n cap)) := by
  have hh := h.hb
  have hu := h.pk.ids a f hf
  have hgl : base ≤ gl := (World.ownsRow.lt h.pk.row gl rfl).1
  refine ⟨(h.o1.grown hgrow (own_ne hu (by omega))).setFar _ _ (by show w0.heap.size ≠ gl; omega), (h.o2.grown hgrow (own_ne hu (by omega))).setFar _ _ (by show w0.heap.size + 1 ≠ gl; omega),
    (h.o3.grown hgrow (own_ne hu (by omega))).setFar _ _ (by show w0.heap.size + 1 + 1 ≠ gl; omega), ?_, h.nb, h.pk.pushT hf s hn hown hgrow hat, ?_, h.hb, ?_⟩
  · have h1 : OwnT w' (w0.heap.size + 3) names nv := World.ownsRow.kept h.nm hgrow (by
      cases hq : nv.ownBlock with
      | none => exact .inl rfl
      | some b =>
        right
        intro e
        have h1 := h.nb b hq
        have h2 := (World.ownsRow.lt hu b e.symm).1
        omega)
    refine ownsRow_setCell_other h1 ?_ _
    intro e
    have h1 := h.nb gl e
    omega
  · exact (h.bel.grown hgrow h.bel.size fun k hk => by have := (World.ownsRow.lt hu k hk).1; omega).setCell (by show w0.heap.size ≤ gl; omega) _
  · have := hgrow.size; have := h.hw; simp [World.setCell]; omega
end
theorem grp_take {F : ByteArray → Nat → Int} {l : List ByteArray} {k : Nat} {id : ByteArray} (h : l[k]? = some id) : grpF F (l.take (k + 1)) = grpStep F (grpF F (l.take k)) id := by
  unfold grpF; rw [takeT h, List.foldl_append]; rfl
theorem put_at {v : Nat → Int} {id : ByteArray} : ∀ {o : List Fr} {a : Nat} {f : Fr}, o[a]? = some f → (∀ j g, j < a → o[j]? = some g → eqV g.v v = false) → eqV f.v v = true → putF v id o = o.set a ⟨f.ids ++ [id], f.v⟩
  | [], a, f, h, _, _ => by simp at h
  | q :: o, 0, f, h, _, he => by
    simp at h; subst h
    rw [putF, if_pos he]; rfl
  | q :: o, a + 1, f, h, hn, he => by
    simp at h
    have hq := hn 0 q (by omega) rfl
    rw [putF, if_neg (by rw [hq]; simp), List.set_cons_succ]
    rw [put_at h (fun j g hj hg => hn (j + 1) g (by omega) (by simpa using hg)) he]
theorem put_new {v : Nat → Int} {id : ByteArray} : ∀ {o : List Fr}, (∀ j g, j < o.length → o[j]? = some g → eqV g.v v = false) → putF v id o = (o ++ [(⟨[], v⟩ : Fr)]).set o.length (⟨[] ++ [id], v⟩ : Fr)
  | [], _ => by simp [putF]
  | q :: o, hn => by
    have hq := hn 0 q (by simp) rfl
    rw [putF, if_neg (by rw [hq]; simp), put_new fun j g hj hg => hn (j + 1) g (by simp; omega) (by simpa using hg)]
    simp
theorem put_len (v : Nat → Int) (id : ByteArray) : ∀ o : List Fr, (putF v id o).length ≤ o.length + 1
  | [] => by simp [putF]
  | q :: o => by
    rw [putF]
    split
    · simp
    · have := put_len v id o; simp; omega
theorem grp_len (F : ByteArray → Nat → Int) (l : List ByteArray) : ∀ o : List Fr, (l.foldl (grpStep F) o).length ≤ o.length + l.length := by
  induction l with
  | nil => intro o; simp
  | cons a l ih =>
    intro o
    rw [List.foldl_cons]
    have h1 := ih (grpStep F o a)
    have h2 : (grpStep F o a).length ≤ o.length + 1 := by
      unfold grpStep; split
      · omega
      · exact put_len _ _ _
    simp only [List.length_cons]; omega
theorem grp_ids {F : ByteArray → Nat → Int} {x : ByteArray} (l : List ByteArray) : ∀ o : List Fr, (∃ f ∈ l.foldl (grpStep F) o, x ∈ f.ids) → x ∈ l ∨ ∃ f ∈ o, x ∈ f.ids := by
  induction l with
  | nil => intro o h; exact .inr h
  | cons a l ih =>
    intro o h
    rw [List.foldl_cons] at h
    rcases ih _ h with h | h
    · exact .inl (by simp [h])
    · unfold grpStep at h
      split at h
      · exact .inr h
      · rcases put_ids h with h | h
        · exact .inl (by simp [h])
        · exact .inr h
theorem put_idlen {v : Nat → Int} {id : ByteArray} {o : List Fr} {f : Fr} {m : Nat} (ho : ∀ g ∈ o, g.ids.length ≤ m) (hf : f ∈ putF v id o) : f.ids.length ≤ m + 1 := by
  rcases mem_putF hf with h | h | ⟨g, hg, _, h⟩
  · have := ho f h; omega
  · subst h; simp
  · subst h; have := ho g hg; simp; omega
theorem grp_idlen {F : ByteArray → Nat → Int} (l : List ByteArray) : ∀ (o : List Fr) (m : Nat), (∀ g ∈ o, g.ids.length ≤ m) → ∀ f ∈ l.foldl (grpStep F) o, f.ids.length ≤ m + l.length := by
  induction l with
  | nil => intro o m h f hf; simpa using h f hf
  | cons a l ih =>
    intro o m h f hf
    rw [List.foldl_cons] at hf
    have := ih (grpStep F o a) (m + 1) (fun g hg => by
      unfold grpStep at hg
      split at hg
      · have := h g hg; omega
      · exact put_idlen h hg) f hf
    simp only [List.length_cons]; omega
def PlRel (F : ByteArray → Nat → Int) (ns : List ByteArray) (nn : Nat) (w0 : World) (base : Nat) (X Z : Array Value) (A : Nat → Int) (nv : Value) (iv : Value) (wr : World) : Prop :=
  ∃ (k : Nat) (U : Nat → Value) (Lv : Value), k ≤ nn ∧ iv = .int .i64 k ∧ Hid (PlS w0 base X Z A ns nv (grpF F (ns.take k)) U Lv wr)
def Found (v : Nat → Int) (id : ByteArray) (o : List Fr) (a : Nat) : Prop := (∃ f, o[a]? = some f ∧ putF v id o = o.set a ⟨f.ids ++ [id], f.v⟩) ∨ (a = o.length ∧ putF v id o = (o ++ [(⟨[], v⟩ : Fr)]).set o.length (⟨[] ++ [id], v⟩ : Fr))
def AtRel (o : List Fr) (v : Nat → Int) (no : Nat) (w0 : World) (base : Nat) (X Z : Array Value) (A : Nat → Int) (ns : List ByteArray) (nv : Value) (U : Nat → Value) (Lv : Value) (bv : Nat) (iv : Value) (wr : World) : Prop :=
  ∃ a : Nat, a ≤ no ∧ iv = .int .i64 a ∧ Hid (∀ j g, j < a → o[j]? = some g → eqV g.v v = false) ∧ Hid (PlS w0 base X Z A ns nv o U Lv wr) ∧ Hid (Own wr bv (arr8 v) 28)
theorem fr_cell {w : World} {base n g cap : Nat} {o : List Fr} {U : Nat → Value} {a : Nat} {f : Fr} (h : w.ownsRow base 125 9 (.slice (some ⟨g, 0, none⟩) n cap) o.length (frCs U 0 o)) (hf : o[a]? = some f) : w.cell? ⟨g, a * 9, none⟩ = some (U a) := by
  have hk := posA hf
  have hn : n = o.length := by
    obtain ⟨oa, cap', g', e, _⟩ := row_slice h
    cases e; rfl
  subst hn
  have := h.cellAt (a * 9) (by omega)
  rw [this, show a * 9 = a * 9 + 0 by omega, frCs_get _ _ _ _ _ hf 0 (by omega), Nat.zero_add]; rfl
theorem newsF {w : World} {v : Nat → Int} {t : TypeId} : ∀ j u, (fc ⟨[], v⟩ (.slice none 0 0))[j]? = some u → (w.alloc (.cells #[.slice none 0 0, .int .i64 (v 0), .int .i64 (v 1), .int .i64 (v 2), .int .i64 (v 3), .int .i64 (v 4), .int .i64 (v 5), .int .i64 (v 6), .int .i64 (v 7)] t)).cell? ((⟨w.heap.size, 0, none⟩ : Addr).add j) = some u :=
  World.news_of_block (cs := #[.slice none 0 0, .int .i64 (v 0), .int .i64 (v 1), .int .i64 (v 2), .int .i64 (v 3), .int .i64 (v 4), .int .i64 (v 5), .int .i64 (v 6), .int .i64 (v 7)]) (t := t) (fr := (0, 0)) (heap_alloc_new w _)
theorem oneF (f : Fr) {u : Value} (h : u.oneCell' = true) : ∀ z ∈ fc f u, z.oneCell' = true := by
  intro z hz
  simp only [fc, List.mem_cons, List.not_mem_nil, or_false] at hz
  rcases hz with rfl | rfl | rfl | rfl | rfl | rfl | rfl | rfl | rfl
  · exact h
  all_goals rfl
def st9 (X : World) (b : Nat) (c0 c1 c2 c3 c4 c5 c6 c7 c8 : Value) : World := (st8 X b c0 c1 c2 c3 c4 c5 c6 c7).setCell ⟨b, 8, none⟩ c8
theorem st9_own {X : World} {b : Nat} {z0 z1 z2 z3 z4 z5 z6 z7 z8 : Value} {T : TypeId} (o : Own X b #[z0, z1, z2, z3, z4, z5, z6, z7, z8] T) (c0 c1 c2 c3 c4 c5 c6 c7 c8 : Value) : Own (st9 X b c0 c1 c2 c3 c4 c5 c6 c7 c8) b #[c0, c1, c2, c3, c4, c5, c6, c7, c8] T := by
  have h := (((((((((o.set 0 c0).set 1 c1).set 2 c2).set 3 c3).set 4 c4).set 5 c5).set 6 c6).set 7 c7).set 8 c8)
  have e : ((((((((((#[z0, z1, z2, z3, z4, z5, z6, z7, z8] : Array Value).setIfInBounds 0 c0).setIfInBounds 1 c1).setIfInBounds 2 c2).setIfInBounds 3 c3).setIfInBounds 4 c4).setIfInBounds 5 c5).setIfInBounds 6 c6).setIfInBounds 7 c7).setIfInBounds 8 c8) = #[c0, c1, c2, c3, c4, c5, c6, c7, c8] := by simp
  rw [e] at h
  exact h
theorem st9_below {w X : World} {B b : Nat} (hb : Below B w X) (hp : B ≤ b) (c0 c1 c2 c3 c4 c5 c6 c7 c8 : Value) : Below B w (st9 X b c0 c1 c2 c3 c4 c5 c6 c7 c8) :=
  (st8_below hb hp c0 c1 c2 c3 c4 c5 c6 c7).setCell (p := ⟨b, 8, none⟩) hp c8
theorem fr9 {w0 wr : World} {base : Nat} {X Z : Array Value} {A : Nat → Int} {ns : List ByteArray} {nv : Value} {o : List Fr} {U : Nat → Value} {Lv : Value} (h : PlS w0 base X Z A ns nv o U Lv wr) (hok : ∀ f ∈ o, ∀ s ∈ f.ids, s.size ≤ maxLen) (c0 c1 c2 c3 c4 c5 c6 c7 c8 : Value) : FrFresh (st9 wr (w0.heap.size + 1) c0 c1 c2 c3 c4 c5 c6 c7 c8) w0.heap.size o Lv := by
  have hb : ∀ q, ((⟨w0.heap.size + 1, q, none⟩ : Addr)).block < base := fun q => by have := h.hb; show w0.heap.size + 1 < base; omega
  exact ((((((((((h.pk.setLow (hb 0) c0).setLow (hb 1) c1).setLow (hb 2) c2).setLow (hb 3) c3).setLow (hb 4) c4).setLow (hb 5) c5).setLow (hb 6) c6).setLow (hb 7) c7).setLow (hb 8) c8).fresh (by have := h.hb; omega) hok)
set_option maxRecDepth 100000 in
set_option maxHeartbeats 8000000 in
theorem refPlainK_calls (K : Kn) (v : Value) (w : World) (hR : FrW w K.l v) (hlen : (flatI K.l).length ≤ 10000) :
    Calls Tryz.prog 103 #[knV K.star v] w fun e w' => ∃ v', e = .returned (knV K.star v') ∧ FrFresh w' w.heap.size (plainB K).l v' ∧ Below w.heap.size w w' := by
  have hN := fun w' (hb : Below w.heap.size w w') => names_calls K.l K.star v w' (hR.later hb (Nat.le_refl _)) hlen
  have hB := fun id w' (hb : Below w.heap.size w w') => Lib.hid (beyond_calls K id v w' (hR.later hb (Nat.le_refl _)))
  have HNL := Lib.hid (show (namesB K).length ≤ 10000 from Nat.le_trans (len_all _) hlen)
  have HOK : Hid (∀ s ∈ namesB K, s.size ≤ maxLen) := by
    obtain ⟨U, oa, cap, b, o, _, hr⟩ := hR
    exact fun s hs => fr_ok hr s (mem_all.1 hs)
  obtain ⟨ov, cv, rfl⟩ := hR.val
  have HP := Lib.hid (show (plainB K).l = grpF (beyB K) (namesB K) from rfl)
  have HTR := Lib.hid (fun id => bey_trunc K id)
  obtain ⟨A, l⟩ := K
  simp only at *
  generalize (plainB ⟨A, l⟩).l = res at *
  have hbx : Below w.heap.size w (((w.alloc (.cells (knA A (.slice ov l.length cv)) 31)).alloc (.cells (knA zeroV (.slice none 0 0)) 31)).alloc (.cells (knA A (.slice none 0 0)) 31)) :=
    (((Below.refl _ _).alloc (Nat.le_refl _) _).alloc (by simp) _).alloc (by simp; omega) _
  have N := Lib.hid (hN _ hbx)
  have e : namesB ⟨A, l⟩ = insAll (flatI l) := rfl
  rw [e] at HP HNL HOK
  clear e
  generalize insAll (flatI l) = ns at *
  have I1 := Lib.hid (show Own _ _ _ _ ∧ Own _ _ _ _ ∧ Own _ _ _ _ ∧ Below _ _ _ from ⟨((Own.new w (knA A (.slice ov l.length cv)) 31).alloc (.cells (knA zeroV (.slice none 0 0)) 31)).alloc (.cells (knA A (.slice none 0 0)) 31), (Own.newAt (w.alloc (.cells (knA A (.slice ov l.length cv)) 31)) (knA zeroV (.slice none 0 0)) 31 (b := w.heap.size + 1) (by simp)).alloc (.cells (knA A (.slice none 0 0)) 31), Own.newAt ((w.alloc (.cells (knA A (.slice ov l.length cv)) 31)).alloc (.cells (knA zeroV (.slice none 0 0)) 31)) (knA A (.slice none 0 0)) 31 (b := w.heap.size + 1 + 1) (by simp), hbx⟩)
  clear hbx hN
  go_enter Tryz.func103, Tryz.ntmps103
  go_wp2_with (go_at_call 160; refine N.out.mono ?_; rintro e w2 ⟨nv, rfl, hnv, hb2⟩)
  obtain ⟨on, cn, gn, rfl, hn1, hn2, hn3⟩ := row_slice hnv
  have S0 := Lib.hid (show PlS w w2.heap.size (knA A (.slice ov l.length cv)) (knA zeroV (.slice none 0 0)) A ns (.slice on ns.length cn) [] (fun _ => .slice none 0 0) (.slice none 0 0) w2 from
    ⟨I1.out.1.later hb2, I1.out.2.1.later hb2, I1.out.2.2.1.later hb2, hnv.mono (by simp), fun b hb => (World.ownsRow.lt hnv b hb).2, PK.nil _ _ _, I1.out.2.2.2.trans (hb2.mono I1.out.2.2.2.size), by have := hb2.size; simpa using this, Nat.le_refl _⟩)
  have hcap := hn1
  have hmax := hn2
  unfold maxLen at hmax
  have HN3 := Lib.hid hn3
  clear hnv hb2 I1 N hn1 hn2 hn3 hR
  generalize w2.heap.size = base at *
  generalize beyB ⟨A, l⟩ = F at *
  generalize hnn : ns.length = nn at *
  have HNN := Lib.hid hnn
  clear hnn
  go_wp2_with fail
  go_loopw [5] (fun iv wr => PlRel F ns nn w base (knA A (.slice ov l.length cv)) (knA zeroV (.slice none 0 0)) A (.slice on nn cn) iv wr) (fun iv _ => nn - (intOf iv).toNat)
  case atStart => exact ⟨0, _, _, Nat.zero_le _, rfl, by simpa [grpF] using S0⟩
  case round =>
    clear S0
    obtain ⟨k, U, Lv, hk, rfl, HS⟩ := hrel
    by_cases hlt : k < nn
    · obtain ⟨id, hid⟩ : ∃ id, ns[k]? = some id := ⟨_, List.getElem?_eq_getElem (by rw [HNN.out]; exact hlt)⟩
      obtain ⟨rfl, hgn⟩ := HN3.out (by omega)
      have c0 : wr.cell? ⟨gn, k, none⟩ = some (.string id) := by
        have h := HS.out.nm
        unfold OwnT at h
        rw [HNN.out] at h
        rw [h.cellAt k (by omega)]
        simp [txC, hid]
      have zg : gn < wr.heap.size := (World.ownsRow.lt HS.out.nm gn rfl).2
      have HG := Lib.hid (grp_take (F := F) hid)
      have HK := Lib.hid (Nat.le_trans (grp_len F (ns.take k) []) (show [].length + (ns.take k).length ≤ k by rw [List.length_take]; simp; omega))
      have HOL : (grpF F (ns.take k)).length ≤ k := HK.out
      have HIDL := Lib.hid (show ∀ f ∈ grpF F (ns.take k), f.ids.length ≤ 10000 from fun f hf => by
        have h1 := grp_idlen (F := F) (ns.take k) [] 0 (fun g hg => by simp at hg) f hf
        rw [List.length_take] at h1
        have := HNL.out; have := HNN.out
        omega)
      have HID := Lib.hid hid
      clear hid HK
      generalize grpF F (ns.take k) = o at *
      have l1 := HS.out.o1.cell
      have z1 := HS.out.o1.lt
      have CB := fun w' (hb : Below wr.heap.size wr w') => hB id w' (HS.out.bel.trans (hb.mono HS.out.bel.size))
      go_upto_region 6 with fail
      go_cut [6] (fun s6 wx => ∃ bv, s6 = .pointer (some ⟨bv, 0, none⟩) ∧ Hid (PlS w base (knA A (.slice ov l.length cv)) (knA zeroV (.slice none 0 0)) A ns (.slice (some ⟨gn, 0, none⟩) nn cn) o U Lv wx) ∧ Hid (Own wx bv (arr8 (F id)) 28))
      case first =>
        go_region_law (first
          | (go_simp; go_at_call 161; refine (CB _ ((Below.refl _ _).drew.alloc (Nat.le_refl _) _)).out.mono ?_; rintro e w3 ⟨rfl, hb3⟩; have ov3 : Own w3 wr.heap.size (arr8 zeroV) 28 := (Own.new wr.drew (arr8 zeroV) 28).later hb3; have lv := ov3.cell; have fv := ov3.free; have zv := ov3.lt; have B3 : Below wr.heap.size wr w3 := ((Below.refl wr.heap.size wr).drew.alloc (Nat.le_refl _) _).trans (hb3.mono (by simp)); have q1 := Lib.hid (And.intro (HS.out.later (st8_below B3 (Nat.le_refl _) (.int .i64 (F id 0)) (.int .i64 (F id 1)) (.int .i64 (F id 2)) (.int .i64 (F id 3)) (.int .i64 (F id 4)) (.int .i64 (F id 5)) (.int .i64 (F id 6)) (.int .i64 (F id 7)))) (st8_own ov3 (.int .i64 (F id 0)) (.int .i64 (F id 1)) (.int .i64 (F id 2)) (.int .i64 (F id 3)) (.int .i64 (F id 4)) (.int .i64 (F id 5)) (.int .i64 (F id 6)) (.int .i64 (F id 7)))))
          | (go_simp; go_at_call 161; refine (CB _ ((Below.refl _ _).drew)).out.mono ?_; rintro e w3 ⟨rfl, hb3⟩; have B3 : Below wr.heap.size wr w3 := (Below.refl wr.heap.size wr).drew.trans hb3; have q2 := Lib.hid (And.intro (HS.out.later (B3.alloc B3.size (.cells (arr8 (F id)) 28))) (Own.new w3 (arr8 (F id)) 28))))
        all_goals
          go_wp2_with fail
          go_meet
          first
            | exact ⟨_, rfl, Lib.hid q1.out.1, Lib.hid q1.out.2⟩
            | exact ⟨_, rfl, Lib.hid q2.out.1, Lib.hid q2.out.2⟩
      case rest =>
        clear HS l1 z1 c0 zg CB
        obtain ⟨bv, rfl, HS, HV⟩ := hcut
        generalize wc = wr at *
        have lv := HV.out.cell
        have zv := HV.out.lt
        have hz := fun w' => show (Op.equalIn 10000 28 (.agg #[.int .i64 (F id 0), .int .i64 (F id 1), .int .i64 (F id 2), .int .i64 (F id 3), .int .i64 (F id 4), .int .i64 (F id 5), .int .i64 (F id 6), .int .i64 (F id 7)]) (.agg #[.int .i64 0, .int .i64 0, .int .i64 0, .int .i64 0, .int .i64 0, .int .i64 0, .int .i64 0, .int .i64 0])).run Tryz.prog w' = .ok (eqV (F id) zeroV) w' from eqVec7 (F id) zeroV w'
        cases hzz : eqV (F id) zeroV
        · rw [hzz] at hz
          have HG2 := Lib.hid (show grpF F (ns.take (k + 1)) = putF (F id) id o by rw [HG.out]; unfold grpStep; rw [if_neg (by rw [hzz]; simp)])
          clear HG hzz
          obtain ⟨oL, cL, gL, rfl, hL1, hL2, hL3⟩ := row_slice HS.out.pk.row
          have HL3 := Lib.hid hL3
          clear hL3
          unfold maxLen at hL2
          generalize hno : o.length = no at *
          have HNO := Lib.hid hno
          clear hno
          go_upto_block 2 with fail
          clear lv zv hz
          go_cut [7] (fun s7 wx => ∃ a : Nat, a ≤ no ∧ s7 = .int .i64 a ∧ Hid (Found (F id) id o a) ∧ Hid (PlS w base (knA A (.slice ov l.length cv)) (knA zeroV (.slice none 0 0)) A ns (.slice (some ⟨gn, 0, none⟩) nn cn) o U (.slice oL no cL) wx) ∧ Hid (Own wx bv (arr8 (F id)) 28))
          case first =>
           go_wp2_with fail
           go_loopw [7] (fun iv wr => AtRel o (F id) no w base (knA A (.slice ov l.length cv)) (knA zeroV (.slice none 0 0)) A ns (.slice (some ⟨gn, 0, none⟩) nn cn) U (.slice oL no cL) bv iv wr) (fun iv _ => no - (intOf iv).toNat)
           case atStart => exact ⟨0, Nat.zero_le _, rfl, fun j g hj => absurd hj (by omega), HS, HV⟩
           case round =>
             clear HS HV
             obtain ⟨a, ha, rfl, HNE, HS, HV⟩ := hrel
             have LA := fun dd os q => HS.out.o3.has.regrown dd os q
             have LB := fun dd os q => HV.out.has.regrown dd os q
             have z3 := HS.out.o3.lt
             have zv := HV.out.lt
             by_cases hat : a < no
             · obtain ⟨f, hf⟩ : ∃ f, o[a]? = some f := ⟨_, List.getElem?_eq_getElem (by rw [HNO.out]; exact hat)⟩
               obtain ⟨rfl, hgL⟩ := HL3.out (by omega)
               have HF := Lib.hid hf
               obtain ⟨c0, c1, c2, c3, c4, c5, c6, c7, c8⟩ := fc_cells (w := wr) (o := a * 9) (HS.out.pk.at hf)
               have zL : gL < wr.heap.size := (World.ownsRow.lt HS.out.pk.row gL rfl).2
               have r1 := fun dd os => cell_regrown c1 dd os
               have r2 := fun dd os => cell_regrown c2 dd os
               have r3 := fun dd os => cell_regrown c3 dd os
               have r4 := fun dd os => cell_regrown c4 dd os
               have r5 := fun dd os => cell_regrown c5 dd os
               have r6 := fun dd os => cell_regrown c6 dd os
               have r7 := fun dd os => cell_regrown c7 dd os
               have r8 := fun dd os => cell_regrown c8 dd os
               clear c0 c1 c2 c3 c4 c5 c6 c7 c8 hf
               have hq := fun w' => show (Op.equalIn 10000 28 (.agg #[.int .i64 (f.v 0), .int .i64 (f.v 1), .int .i64 (f.v 2), .int .i64 (f.v 3), .int .i64 (f.v 4), .int .i64 (f.v 5), .int .i64 (f.v 6), .int .i64 (f.v 7)]) (.agg #[.int .i64 (F id 0), .int .i64 (F id 1), .int .i64 (F id 2), .int .i64 (F id 3), .int .i64 (F id 4), .int .i64 (F id 5), .int .i64 (F id 6), .int .i64 (F id 7)])).run Tryz.prog w' = .ok (eqV f.v (F id)) w' from eqVec7 f.v (F id) w'
               have k0 : (0 : Int) ≤ (a : Int) := by omega
               have k1 : (a : Int) < (no : Int) := by omega
               cases hqq : eqV f.v (F id)
               · rw [hqq] at hq
                 have HNE2 := Lib.hid (show ∀ j g, j < a + 1 → o[j]? = some g → eqV g.v (F id) = false from fun j g hj hg => by
                   by_cases e : j = a
                   · subst e; rw [HF.out] at hg; cases hg; exact hqq
                   · exact HNE.out j g (by omega) hg)
                 clear HNE hqq
                 go_wp2_with fail
                 refine wp_region_quiet_below (by kernel_rfl) (by kernel_rfl) ?_
                 repeat (first | go_big_quiet_step (fail) | quiet_step (fail))
                 refine wpQuiet_nil ?_
                 intro w7 hw'
                 have hb' := Lib.hid (regrown_below hw')
                 clear hw' r1 r2 r3 r4 r5 r6 r7 r8 LA LB hq
                 have HS7 := Lib.hid (HS.out.later hb'.out)
                 have HV7 := Lib.hid (HV.out.later hb'.out)
                 go_wp2_with fail
                 go_roundw
                 case rel => exact ⟨a + 1, by omega, by go_num, HNE2, HS7, HV7⟩
                 case measure => simp [intOf]; omega
               · rw [hqq] at hq
                 have HPE := Lib.hid (put_at (id := id) HF.out HNE.out hqq)
                 clear HNE hqq
                 go_wp2_with fail
                 refine wp_region_quiet_below (by kernel_rfl) (by kernel_rfl) ?_
                 repeat (first | go_big_quiet_step (fail) | quiet_step (fail))
                 refine wpQuiet_nil ?_
                 intro w7 hw'
                 have hb' := Lib.hid (regrown_below hw')
                 clear hw' r1 r2 r3 r4 r5 r6 r7 r8 LA LB hq
                 have HS7 := Lib.hid (HS.out.later hb'.out)
                 have HV7 := Lib.hid (HV.out.later hb'.out)
                 go_wp2_with fail
                 go_meet
                 exact ⟨a, by omega, rfl, Lib.hid (.inl ⟨f, HF.out, HPE.out⟩), HS7, HV7⟩
             · have e : no = a := by omega
               subst e
               have HPE := Lib.hid (put_new (v := F id) (id := id) (o := o) (by rw [HNO.out]; exact HNE.out))
               have l3 := HS.out.o3.cell
               clear HNE
               go_wp2_with fail
               refine wp_region_quiet_below (by kernel_rfl) (by kernel_rfl) ?_
               repeat (first | go_big_quiet_step (fail) | quiet_step (fail))
               refine wpQuiet_nil ?_
               intro w7 hw'
               have hb' := Lib.hid (regrown_below hw')
               clear hw' LA LB l3
               have HS7 := Lib.hid (HS.out.later hb'.out)
               have HV7 := Lib.hid (HV.out.later hb'.out)
               go_wp2_with fail
               go_meet
               exact ⟨no, Nat.le_refl _, rfl, Lib.hid (.inr ⟨HNO.out.symm, HPE.out⟩), HS7, HV7⟩
          case rest =>
            clear HS HV
            obtain ⟨a, ha, rfl, HFO, HS, HV⟩ := hcut
            generalize wc = w7 at *
            have l3 := HS.out.o3.cell
            have z3 := HS.out.o3.lt
            go_upto_if 49 with fail
            go_cut [7] (fun s7 wx => s7 = .int .i64 a ∧ Hid (∃ (o' : List Fr) (U' : Nat → Value) (gL' cL' : Nat) (f : Fr), PlS w base (knA A (.slice ov l.length cv)) (knA zeroV (.slice none 0 0)) A ns (.slice (some ⟨gn, 0, none⟩) nn cn) o' U' (.slice (some ⟨gL', 0, none⟩) o'.length cL') wx ∧ o'[a]? = some f ∧ f.ids.length ≤ 10000 ∧ putF (F id) id o = o'.set a ⟨f.ids ++ [id], f.v⟩))
            case first =>
              rcases HFO.out with ⟨f, hf, hpe⟩ | ⟨hae, hpe⟩
              · have hlt2 : a < no := by have := posA hf; rw [HNO.out] at this; exact this
                obtain ⟨rfl, hgL⟩ := HL3.out (by omega)
                have hne : ((a : Int) == (no : Int)) = false := by simp; omega
                have HF := Lib.hid hf
                have HPE := Lib.hid hpe
                clear hf hpe
                go_wp2_with fail
                go_meet
                exact ⟨rfl, Lib.hid ⟨o, U, gL, cL, f, by rw [HNO.out]; exact HS.out, HF.out, HIDL.out f (List.mem_of_getElem? HF.out), HPE.out⟩⟩
              · rw [HNO.out] at hae
                subst hae
                have HPE := Lib.hid hpe
                clear hpe
                have lv := HV.out.cell
                have zv := HV.out.lt
                have HSA := Lib.hid (HS.out.alloc (.cells #[.slice none 0 0, .int .i64 (F id 0), .int .i64 (F id 1), .int .i64 (F id 2), .int .i64 (F id 3), .int .i64 (F id 4), .int .i64 (F id 5), .int .i64 (F id 6), .int .i64 (F id 7)] 125))
                have hown : (w7.alloc (.cells #[.slice none 0 0, .int .i64 (F id 0), .int .i64 (F id 1), .int .i64 (F id 2), .int .i64 (F id 3), .int .i64 (F id 4), .int .i64 (F id 5), .int .i64 (F id 6), .int .i64 (F id 7)] 125)).ownsRow base 125 9 (.slice oL a cL) a (frCs U 0 o) := by
                  have h := HSA.out.pk.row
                  rw [HNO.out] at h
                  exact h
                obtain ⟨j0, hj, hy0, hy1, hy2⟩ := info_parts info_frag
                have hnl := HNL.out
                have t1 : base ≤ (w7.alloc (.cells #[.slice none 0 0, .int .i64 (F id 0), .int .i64 (F id 1), .int .i64 (F id 2), .int .i64 (F id 3), .int .i64 (F id 4), .int .i64 (F id 5), .int .i64 (F id 6), .int .i64 (F id 7)] 125)).heap.size := by have := HS.out.hw; simp; omega
                have t2 : (w7.alloc (.cells #[.slice none 0 0, .int .i64 (F id 0), .int .i64 (F id 1), .int .i64 (F id 2), .int .i64 (F id 3), .int .i64 (F id 4), .int .i64 (F id 5), .int .i64 (F id 6), .int .i64 (F id 7)] 125)).heap.size = w7.heap.size + 1 := by simp
                have t3 : a + 1 ≤ maxLen := by unfold maxLen; omega
                have t4 : (a + 1) * 88 ≤ 140737488355328 := by omega
                have hb3 : w.heap.size + 1 + 1 < base := by have := HS.out.hb; omega
                go_wp2_with (at_builtin; refine wpList_append_lies _ (by rfl) _ _ _ (by rfl) base 125 j0 _ 9 88 Tryz.underlying29 hj hy0 hy1 hy2 rfl (by omega) (.slice oL a cL) a (frCs U 0 o) (by rfl) hown ⟨w7.heap.size, 0, none⟩ 1 1 (fc ⟨[], F id⟩ (.slice none 0 0)) (by rfl) (by rfl) newsF (oneF _ rfl) (by omega) t3 t4 t1 (w7.heap.size + 1) t2 ?_; intro g cap' w3 hown3 hgrow hat3 hlt3; have R := HSA.out.addF (F id) (by rw [HNO.out]) hown3 hgrow; have o33 := HSA.out.o3.grown hgrow (own_ne HSA.out.pk.row hb3); have l33 := o33.cell; have f33 := o33.free; have z33 := o33.lt)
                go_meet
                exact ⟨rfl, Lib.hid ⟨_, _, g, cap', ⟨[], F id⟩, by rw [show (o ++ [(⟨[], F id⟩ : Fr)]).length = a + 1 by simp [HNO.out]]; exact R, by rw [← HNO.out]; simp, by simp, by rw [HPE.out, HNO.out]⟩⟩
            case rest =>
              clear HS HV HFO HL3 HIDL HNO HNL HOK HTR HP hB hlen l3 z3 ha
              obtain ⟨rfl, HC⟩ := hcut
              obtain ⟨o', U', gL', cL', f, hs, hf, hil, hpe⟩ := HC.out
              clear HC
              generalize wc = wq at *
              have HQ := Lib.hid hs
              have HF := Lib.hid hf
              have HPE := Lib.hid hpe
              have HGK := Lib.hid (show grpF F (ns.take (k + 1)) = o'.set a ⟨f.ids ++ [id], f.v⟩ by rw [HG2.out, hpe])
              clear hs hf hpe HPE HG2
              have hno' := posA HF.out
              have hUT := HQ.out.pk.ids a f HF.out
              obtain ⟨oU, cU, gU, hUa, hU1, hU2, hU3⟩ := row_slice hUT
              obtain ⟨d0, _⟩ := fc_cells (w := wq) (o := a * 9) (HQ.out.pk.at HF.out)
              rw [hUa] at d0
              have hown : (wq.alloc (.cells #[.string id] 9)).drew.ownsRow base 9 1 (.slice oU f.ids.length cU) f.ids.length (txC f.ids) := by
                have h := OwnT.later (OwnT.alloc hUT (.cells #[.string id] 9)) (Below.refl _ _).drew
                rw [hUa] at h
                exact h
              have HUA := Lib.hid hUa
              have c0 : wq.cell? ⟨gn, k, none⟩ = some (.string id) := by
                have h := HQ.out.nm
                unfold OwnT at h
                rw [HNN.out] at h
                rw [h.cellAt k (by omega)]
                simp [txC, HID.out]
              have zg : gn < wq.heap.size := (World.ownsRow.lt HQ.out.nm gn rfl).2
              have zL7 : gL' < wq.heap.size := (World.ownsRow.lt HQ.out.pk.row gL' rfl).2
              have hidl : (f.ids.length + 1) * 16 ≤ 140737488355328 := by omega
              have hb3 : w.heap.size + 1 + 1 < base := by have := HQ.out.hb; omega
              have l3 := HQ.out.o3.cell
              have z37 := HQ.out.o3.lt
              obtain ⟨i0, hi, hz0, hz1, hz2⟩ := info_parts info_text
              have HSA := Lib.hid (HQ.out.later ((Below.refl wq.heap.size wq).alloc (Nat.le_refl _) (.cells #[.string id] 9)).drew)
              have t1 : base ≤ (wq.alloc (.cells #[.string id] 9)).drew.heap.size := by have := HQ.out.hw; simp; omega
              have t2 : (wq.alloc (.cells #[.string id] 9)).drew.heap.size = wq.heap.size + 1 := by simp
              have t3 : f.ids.length + 1 ≤ maxLen := by unfold maxLen; omega
              clear hUa hUT hU1 hU2 hU3 HQ hil
              generalize hnq : o'.length = nq at *
              have HNQ := Lib.hid hnq
              clear hnq
              go_wp2_with fail
              go_region_law (refine step_append_lies _ (by rfl) _ _ _ (by rfl) base 9 i0 _ 1 16 Tryz.underlying123 hi hz0 hz1 hz2 rfl (by omega) (.slice oU f.ids.length cU) f.ids.length (txC f.ids) (by rfl) hown ⟨wq.heap.size, 0, none⟩ 1 1 [.string id] (by rfl) (by rfl) (newsT (w := wq)) (oneT id) (by omega) t3 hidl t1 (wq.heap.size + 1) t2 ?_; intro g cap' w3 hown3 hgrow hat3 hlt3; have R := Lib.hid (HSA.out.addT HF.out id rfl hown3 (by rw [HUA.out]; exact hgrow) (by rw [HUA.out]; simpa using hat3)); have rw3 := World.ownsRow.kept HSA.out.pk.row hgrow (by rw [← HUA.out]; exact row_apart HSA.out.pk.row (HSA.out.pk.ids a f HF.out) (fun e => ft_ne e.symm)); have cw3 := fr_cell rw3 HF.out; have fw3 := row_free rw3 (a * 9); have l33 := (HSA.out.o3.grown (by rw [HUA.out]; exact hgrow) (own_ne (HSA.out.pk.ids a f HF.out) hb3)).cell; clear rw3 hown3 hgrow hat3 hlt3)
              all_goals
                go_wp2_with fail
                go_roundw
                case rel => exact ⟨k + 1, _, _, by omega, by go_num, Lib.hid (by rw [HGK.out]; exact R.out)⟩
                case measure => simp [intOf]; omega
        · rw [hzz] at hz
          have HG2 := Lib.hid (show grpF F (ns.take (k + 1)) = o by rw [HG.out]; unfold grpStep; rw [if_pos hzz])
          clear HG hzz
          go_wp2_with fail
          go_roundw
          case rel => exact ⟨k + 1, U, Lv, by omega, by go_num, Lib.hid (by rw [HG2.out]; exact HS.out)⟩
          case measure => simp [intOf]; omega
    · have e : nn = k := by omega
      subst e
      have h1 := HS.out
      rw [show ns.take nn = ns from List.take_of_length_le (by rw [HNN.out]; omega)] at h1
      have hfr := fr9 h1 (fun f hf s hs => HOK.out s (by
        rcases grp_ids (F := F) ns [] ⟨f, hf, hs⟩ with h | ⟨g, hg, _⟩
        · exact h
        · simp at hg))
      rw [← HP.out] at hfr
      obtain ⟨oL, cL, gL, rfl, hL1, hL2, hL3⟩ := row_slice h1.pk.row
      have l3 := h1.o3.cell
      have z3 := h1.o3.lt
      have l2 := h1.o2.cell
      have f2 := h1.o2.free
      have z2 := h1.o2.lt
      have key := And.intro (st9_own h1.o2 (.int .i64 (A 0)) (.int .i64 (A 1)) (.int .i64 (A 2)) (.int .i64 (A 3)) (.int .i64 (A 4)) (.int .i64 (A 5)) (.int .i64 (A 6)) (.int .i64 (A 7)) (.slice oL (grpF F ns).length cL)) (And.intro (st9_below (b := w.heap.size + 1) h1.bel (by omega) (.int .i64 (A 0)) (.int .i64 (A 1)) (.int .i64 (A 2)) (.int .i64 (A 3)) (.int .i64 (A 4)) (.int .i64 (A 5)) (.int .i64 (A 6)) (.int .i64 (A 7)) (.slice oL (grpF F ns).length cL)) (hfr (.int .i64 (A 0)) (.int .i64 (A 1)) (.int .i64 (A 2)) (.int .i64 (A 3)) (.int .i64 (A 4)) (.int .i64 (A 5)) (.int .i64 (A 6)) (.int .i64 (A 7)) (.slice oL (grpF F ns).length cL)))
      have KEY := Lib.hid key
      clear key hfr h1 hL1 hL2 hL3 HS HP
      generalize (grpF F ns).length = nr at *
      go_wp2_with fail
      clear l2 f2 z2 l3 z3
      have key := KEY.out
      unfold st9 st8 at key
      revert key
      generalize World.setCell (World.setCell (World.setCell (World.setCell (World.setCell (World.setCell (World.setCell (World.setCell (World.setCell _ _ _) _ _) _ _) _ _) _ _) _ _) _ _) _ _) _ _ = WW
      rintro ⟨of, bf, ff⟩
      have lf := of.cell
      refine bodyPost_ret (v := knV A (.slice oL nr cL)) (by simp [results, Tryz.results103, go_sem, lf]) rfl ⟨_, rfl, ff, bf⟩
end Go.Proofs.YthbjgfennclidaaGreat
