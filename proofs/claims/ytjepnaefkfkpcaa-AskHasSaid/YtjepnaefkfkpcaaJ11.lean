/- Joined: StK, RefSize, RefHas, Fits, RefHasK. -/
import Derived.Test.YtjepnaefkfkpcaaJ01
import Derived.Deep.MidRow
import Derived.Laws.ResultCell
import Derived.Test.YtjepnaefkfkpcaaJ09
import Derived.Test.YtjepnaefkfkpcaaJ07
import Derived.Deep.CutBlock
import Derived.Deep.DeepCutAuto
import Derived.Test.YtjepnaefkfkpcaaJ05
import Derived.Test.YtjepnaefkfkpcaaJ04
import Derived.Test.YtjepnaefkfkpcaaJ08
/- A whole variable stored, or loaded, at once. No walk. -/
namespace Go.Proofs.Ytjepnaefkfkpcaa
set_option linter.unusedVariables false
set_option linter.unusedSimpArgs false
set_option maxRecDepth 100000
open Go.RowKit
def setArr (c : Array Value) (o : Nat) : List Value → Array Value
  | [] => c
  | v :: r => setArr (c.setIfInBounds o v) (o + 1) r
theorem setArr_size (vs : List Value) : ∀ (c : Array Value) (o : Nat), (setArr c o vs).size = c.size := by
  induction vs with
  | nil => intro c o; rfl
  | cons v r ih => intro c o; rw [setArr, ih]; simp
theorem setArr_get (vs : List Value) : ∀ (c : Array Value) (o j : Nat), j < c.size → (setArr c o vs)[j]? = if o ≤ j ∧ j < o + vs.length then vs[j - o]? else c[j]? := by
  induction vs with
  | nil => intro c o j hj; rw [setArr, if_neg (by simp only [List.length_nil]; omega)]
  | cons v r ih =>
    intro c o j hj
    rw [setArr, ih _ _ _ (by simpa using hj)]
    by_cases e : j = o
    · subst e
      rw [if_neg (by omega), if_pos (by simp)]
      simp [hj]
    · by_cases h : o + 1 ≤ j ∧ j < o + 1 + r.length
      · rw [if_pos h, if_pos (by simp only [List.length_cons]; omega)]
        rw [show j - o = (j - (o + 1)) + 1 by omega, List.getElem?_cons_succ]
      · rw [if_neg h, if_neg (by simp only [List.length_cons]; omega)]
        rw [Array.getElem?_setIfInBounds_ne (fun h' => e h'.symm)]
theorem setArr_all (c : Array Value) (vs : List Value) (h : vs.length = c.size) : setArr c 0 vs = vs.toArray := by
  apply Array.ext_getElem?
  intro j
  by_cases hj : j < c.size
  · rw [setArr_get vs c 0 j hj, if_pos (by omega)]; simp
  · rw [Array.getElem?_eq_none (by rw [setArr_size]; omega), Array.getElem?_eq_none (by simp; omega)]
theorem Own.setsAt {b : Nat} {t : TypeId} (vs : List Value) : ∀ {w : World} {c : Array Value} (o : Nat), Own w b c t → Own (w.setCells b o vs) b (setArr c o vs) t := by
  induction vs with
  | nil => intro w c o h; exact h
  | cons v r ih => intro w c o h; exact ih (o + 1) (h.set o v)
theorem Own.sets {w : World} {b : Nat} {c : Array Value} {t : TypeId} (h : Own w b c t) (vs : List Value) (hl : vs.length = c.size) : Own (w.setCells b 0 vs) b vs.toArray t := by
  rw [← setArr_all c vs hl]; exact h.setsAt vs 0
theorem Own.setsFar {b b' : Nat} {t : TypeId} {c : Array Value} (vs : List Value) : ∀ {w : World} (o : Nat), b' ≠ b → Own w b' c t → Own (w.setCells b o vs) b' c t := by
  induction vs with
  | nil => intro w o _ h; exact h
  | cons v r ih => intro w o hb h; exact ih (o + 1) hb (h.setFar _ _ hb)
theorem below_sets {b B : Nat} {a : World} (hB : B ≤ b) (vs : List Value) : ∀ {w : World} (o : Nat), Below B a w → Below B a (w.setCells b o vs) := by
  induction vs with
  | nil => intro w o h; exact h
  | cons v r ih => intro w o h; exact ih (o + 1) (h.setCell hB v)
theorem Own.there {w : World} {b : Nat} {c : Array Value} {t : TypeId} (h : Own w b c t) {n : Nat} (hn : n = c.size) : w.there b 0 n := fun j hj => by
  rw [Nat.zero_add, h.cell j]
  exact ⟨by rw [Array.getElem?_eq_getElem (by omega)]; rfl, h.free j⟩
theorem Own.range {w : World} {b : Nat} {l : List Value} {t : TypeId} (h : Own w b l.toArray t) : w.rangeAt b 0 l := fun j v hv => by
  rw [Nat.zero_add, h.cell j]; simpa using hv
theorem run_asAddr {P : Program} (a : Addr) (w : World) : (asAddr (.pointer (some a))).run P w = .ok a w := by simp [asAddr]
theorem ret_cell {P : Program} {fn : Func} {R : Ending → World → Prop} {a : Act} {w : World} {p : Tmp} {ty : TypeId} {b : Nat} {l : List Value} {d : TypeDesc} (h : fn.results = #[.cell p ty])
    (hp : a.tmps.getD p undef = .pointer (some ⟨b, 0, none⟩)) (hc : w.rangeAt b 0 l) (hu : P.underlying ty = some d) (hd : d.isRow = true) (hi : (P.info? ty).map (·.size) = some l.length)
    (hdf : a.defers = []) (hR : R (.returned (.agg l.toArray)) w) : bodyPost P fn R .ret a w :=
  bodyPost_ret (by
    have e := run_loadVar_mid (P := P) w b 0 ty l d hc hu hd hi
    have hp2 : a.tmps[p]?.getD undef = .pointer (some ⟨b, 0, none⟩) := by rw [← hp]; simp
    simp only [results, h]
    simp [Sem.run_bind, hp2, run_asAddr, e]) hdf hR
end Go.Proofs.Ytjepnaefkfkpcaa
/- How large and how deep a filter is: the document's answer, walked. -/
namespace Go.Proofs.Ytjepnaefkfkpcaa
set_option linter.unusedVariables false
set_option linter.unusedSimpArgs false
set_option maxRecDepth 100000
open Go.RowKit
set_option maxHeartbeats 1000000 in
theorem refSize_calls (p : Pr) : ∀ (v : Value) (w : World), LP w p v → p.size ≤ 1000 →
    Calls Try.prog 32 #[.agg #[.int .i64 p.op, .string p.text, .int .i64 p.n, .complex .f64 p.x p.y, v]] w fun e w' => e = .returned (.int .i64 (p.size : Nat)) ∧ Below w.heap.size w w' := by
  induction p using Pr.ind with
  | h op t n x y kids ih =>
    intro v w hL hsz
    obtain ⟨oa, cap, b, o, V, rfl, ht, hl, hc, hn, hcell, hrec⟩ := lies_slice hL
    simp only [Pr.kids_node, Pr.text_node, Pr.op_node, Pr.n_node, Pr.x_node, Pr.y_node, Pr.size, Pr.depth] at *
    unfold maxLen at hc
    have h1000 := Pr.len_le_sizes kids
    have HC := Lib.hid hcell
    have HR := Lib.hid hrec
    have HN := Lib.hid hn
    have HI := Lib.hid ih
    clear hL hcell hrec hn ih
    generalize hlen : kids.length = len at *
    have HLEN := Lib.hid hlen
    clear hlen
    go_enter Try.func32, Try.ntmps32
    go_wp2_with fail
    go_loopw [3, 4] (fun n' i wr => SumRel kids len (fun l => 1 + Pr.sizes l) (w.alloc (.cells #[.int .i64 op, .string t, .int .i64 n, .complex .f64 x y, .slice oa len cap] 39)) n' i wr) (fun _ i _ => len - (intOf i).toNat)
    case atStart => exact ⟨0, 1, Nat.zero_le _, rfl, rfl, by omega, by simp [Hid, Pr.sizes, Pr.depths], Below.refl _ _⟩
    case round =>
      obtain ⟨k, s, hk, rfl, rfl, hs, HS, hb⟩ := hrel
      have g := (Has.new w #[.int .i64 op, .string t, .int .i64 n, .complex .f64 x y, .slice oa len cap] 39).below hb (by simp)
      by_cases hlt : k < len
      · obtain ⟨q, hq⟩ : ∃ q, kids[k]? = some q := ⟨_, List.getElem?_eq_getElem (by rw [HLEN.out]; exact hlt)⟩
        obtain ⟨rfl, hB⟩ := HN.out (by omega)
        obtain ⟨oq, cq, hV⟩ := lies_val (HR.out k q hq)
        have hbw : Below w.heap.size w wr := ((Below.refl _ _).alloc (Nat.le_refl _) _).trans (hb.mono (by simp))
        obtain ⟨c0, c1, c2, c3, c4⟩ := pc_cells (w := wr) (fun j u hu => (hbw.cell (p := ⟨b, o + k * 5 + j, none⟩) hB).trans (HC.out k q hq j u hu))
        have L0 := (HR.out k q hq).later hbw (Nat.le_refl _)
        rw [hV] at c4 L0
        have hqs := Pr.size_mem (List.mem_of_getElem? hq)
        have hqd := Pr.depth_le_size q
        have CC := fun w' h => Lib.hid (HI.out q (List.mem_of_getElem? hq) (.slice oq q.kids.length cq) w' h (by omega))
        have L1 := fun ob => Lib.hid (L0.atAlloc ob)
        have LW := Lib.hid L0
        have h3 := Pr.sizes_take hq
        have h4 := Pr.sizes_take_le kids (k + 1)
        have h5 := Pr.depths_take hq
        have h7 := Pr.depth_le_size (.node op t n x y kids)
        have h8 := Pr.depths_take_le kids (k + 1)
        simp only [Pr.size, Pr.depth] at h7
        have h6 : s = 1 + Pr.sizes (kids.take k) := HS.out
        have hs1 : s + q.size ≤ 1000 := by rw [h3] at h4; omega
        have HS1 := Lib.hid (show s + q.size = 1 + Pr.sizes (kids.take (k + 1)) by rw [h3]; omega)
        have HB := Lib.hid hb
        have HQ := Lib.hid hq
        clear hb hbw hq L0 h3 h4 h5 h6 h7 h8 hV
        have l := g.cell
        have z := g.lt
        clear g
        go_wp2_with (go_at_call 32; refine (CC _ LW.out).out.mono ?_; rintro e w' ⟨rfl, hb'⟩)
        all_goals
          go_roundw
          case rel => exact ⟨k + 1, s + q.size, by omega, by go_num, by go_num, by omega, HS1.out, HB.out.trans (hb'.mono HB.out.size)⟩
          case measure => simp [intOf]; omega
      · have HB := Lib.hid hb
        clear hb
        have l := g.cell
        have z := g.lt
        clear g
        have e : k = len := by omega
        have h5 : s = 1 + Pr.sizes (kids.take k) := HS.out
        rw [Pr.take_all kids (by rw [HLEN.out]; omega)] at h5
        have H5 := Lib.hid h5
        clear h5 e
        go_wp2_with fail
        go_ret
        have h5 := H5.out
        exact ⟨ret_int (by rw [h5]; omega), below_new HB.out⟩
set_option maxHeartbeats 1000000 in
theorem refDepth_calls (p : Pr) : ∀ (v : Value) (w : World), LP w p v → p.size ≤ 1000 →
    Calls Try.prog 33 #[.agg #[.int .i64 p.op, .string p.text, .int .i64 p.n, .complex .f64 p.x p.y, v]] w fun e w' => e = .returned (.int .i64 (p.depth : Nat)) ∧ Below w.heap.size w w' := by
  induction p using Pr.ind with
  | h op t n x y kids ih =>
    intro v w hL hsz
    obtain ⟨oa, cap, b, o, V, rfl, ht, hl, hc, hn, hcell, hrec⟩ := lies_slice hL
    simp only [Pr.kids_node, Pr.text_node, Pr.op_node, Pr.n_node, Pr.x_node, Pr.y_node, Pr.size, Pr.depth] at *
    unfold maxLen at hc
    have h1000 := Pr.len_le_sizes kids
    have HC := Lib.hid hcell
    have HR := Lib.hid hrec
    have HN := Lib.hid hn
    have HI := Lib.hid ih
    clear hL hcell hrec hn ih
    generalize hlen : kids.length = len at *
    have HLEN := Lib.hid hlen
    clear hlen
    go_enter Try.func33, Try.ntmps33
    go_wp2_with fail
    go_loopw [3, 4] (fun n' i wr => SumRel kids len (fun l => 1 + Pr.depths l) (w.alloc (.cells #[.int .i64 op, .string t, .int .i64 n, .complex .f64 x y, .slice oa len cap] 39)) n' i wr) (fun _ i _ => len - (intOf i).toNat)
    case atStart => exact ⟨0, 1, Nat.zero_le _, rfl, rfl, by omega, by simp [Hid, Pr.sizes, Pr.depths], Below.refl _ _⟩
    case round =>
      obtain ⟨k, s, hk, rfl, rfl, hs, HS, hb⟩ := hrel
      have g := (Has.new w #[.int .i64 op, .string t, .int .i64 n, .complex .f64 x y, .slice oa len cap] 39).below hb (by simp)
      by_cases hlt : k < len
      · obtain ⟨q, hq⟩ : ∃ q, kids[k]? = some q := ⟨_, List.getElem?_eq_getElem (by rw [HLEN.out]; exact hlt)⟩
        obtain ⟨rfl, hB⟩ := HN.out (by omega)
        obtain ⟨oq, cq, hV⟩ := lies_val (HR.out k q hq)
        have hbw : Below w.heap.size w wr := ((Below.refl _ _).alloc (Nat.le_refl _) _).trans (hb.mono (by simp))
        obtain ⟨c0, c1, c2, c3, c4⟩ := pc_cells (w := wr) (fun j u hu => (hbw.cell (p := ⟨b, o + k * 5 + j, none⟩) hB).trans (HC.out k q hq j u hu))
        have L0 := (HR.out k q hq).later hbw (Nat.le_refl _)
        rw [hV] at c4 L0
        have hqs := Pr.size_mem (List.mem_of_getElem? hq)
        have hqd := Pr.depth_le_size q
        have CC := fun w' h => Lib.hid (HI.out q (List.mem_of_getElem? hq) (.slice oq q.kids.length cq) w' h (by omega))
        have L1 := fun ob => Lib.hid (L0.atAlloc ob)
        have LW := Lib.hid L0
        have h3 := Pr.sizes_take hq
        have h4 := Pr.sizes_take_le kids (k + 1)
        have h5 := Pr.depths_take hq
        have h7 := Pr.depth_le_size (.node op t n x y kids)
        have h8 := Pr.depths_take_le kids (k + 1)
        simp only [Pr.size, Pr.depth] at h7
        have h6 : s = 1 + Pr.depths (kids.take k) := HS.out
        have hs1 : max s (1 + q.depth) ≤ 1000 := by rw [h5] at h8; omega
        have HS1 := Lib.hid (show max s (1 + q.depth) = 1 + Pr.depths (kids.take (k + 1)) by rw [h5]; omega)
        have HB := Lib.hid hb
        have HQ := Lib.hid hq
        clear hb hbw hq L0 h3 h4 h5 h6 h7 h8 hV
        have l := g.cell
        have z := g.lt
        clear g
        go_wp2_with (go_at_call 33; refine (CC _ LW.out).out.mono ?_; rintro e w' ⟨rfl, hb'⟩)
        all_goals
          go_roundw
          case rel => exact ⟨k + 1, max s (1 + q.depth), by omega, by go_num, by go_num, by omega, HS1.out, HB.out.trans (hb'.mono HB.out.size)⟩
          case measure => simp [intOf]; omega
      · have HB := Lib.hid hb
        clear hb
        have l := g.cell
        have z := g.lt
        clear g
        have e : k = len := by omega
        have h5 : s = 1 + Pr.depths (kids.take k) := HS.out
        rw [Pr.take_all kids (by rw [HLEN.out]; omega)] at h5
        have H5 := Lib.hid h5
        clear h5 e
        go_wp2_with fail
        go_ret
        have h5 := H5.out
        exact ⟨ret_int (by rw [h5]; omega), below_new HB.out⟩
end Go.Proofs.Ytjepnaefkfkpcaa
/- Which items a filter has: the document's answer, walked. -/
namespace Go.Proofs.Ytjepnaefkfkpcaa
set_option linter.unusedVariables false
set_option linter.unusedSimpArgs false
set_option maxRecDepth 100000
open Go.RowKit
def cntB (i : It) (l : List Pr) : Nat := (l.filter (Pr.hasB i)).length
theorem cnt_le (i : It) (l : List Pr) : cntB i l ≤ l.length := List.length_filter_le _ _
theorem cnt_snoc (i : It) {l : List Pr} {k : Nat} {q : Pr} (hq : l[k]? = some q) : cntB i (l.take (k + 1)) = cntB i (l.take k) + (if Pr.hasB i q = true then 1 else 0) := by
  rw [Pr.take_one hq]; unfold cntB; rw [List.filter_append]
  by_cases h : Pr.hasB i q = true <;> simp [List.filter_cons, h]
theorem cnt_all (i : It) (l : List Pr) : Pr.hasAll i l = decide (cntB i l = l.length) := by
  induction l with
  | nil => simp [Pr.hasAll, cntB]
  | cons a l ih =>
    have hl := cnt_le i l
    unfold cntB at *
    rw [Pr.hasAll, ih, List.filter_cons]
    cases h : Pr.hasB i a
    · simp; omega
    · simp
theorem cnt_any (i : It) (l : List Pr) : Pr.hasAny i l = decide (0 < cntB i l) := by
  induction l with
  | nil => simp [Pr.hasAny, cntB]
  | cons a l ih =>
    unfold cntB at *
    rw [Pr.hasAny, ih, List.filter_cons]
    cases h : Pr.hasB i a <;> simp
def HasRel (i : It) (l : List Pr) (len : Nat) (w0 : World) (many j : Value) (wr : World) : Prop :=
  ∃ (k m : Nat), k ≤ len ∧ j = .int .i64 k ∧ many = .int .i64 m ∧ m ≤ k ∧ Hid (m = cntB i (l.take k)) ∧ Below w0.heap.size w0 wr
set_option maxRecDepth 100000 in
set_option maxHeartbeats 4000000 in
theorem refHas_calls (i : It) (r c st : Int) (d : Bool) (hid : i.id.size ≤ maxLen) (p : Pr) : ∀ (v : Value) (w : World), LP w p v → p.size ≤ 1000 →
    Calls Try.prog 40 #[.agg #[.int .i64 p.op, .string p.text, .int .i64 p.n, .complex .f64 p.x p.y, v], .agg #[.string i.id, .int .i64 r, .int .i64 c, .int .i64 st, .string i.kd, .int .i64 i.num, .complex .f64 i.ax i.ay, .bool d]] w fun e w' => e = .returned (.bool (p.hasB i)) ∧ Below w.heap.size w w' := by
  induction p using Pr.ind with
  | h op t n x y kids ih =>
    intro v w hL hsz
    obtain ⟨oa, cap, b, o, V, rfl, ht, hl, hc, hn, hcell, hrec⟩ := lies_slice hL
    simp only [Pr.kids_node, Pr.text_node, Pr.op_node, Pr.n_node, Pr.x_node, Pr.y_node, Pr.size] at *
    unfold maxLen at hc
    have h1000 := Pr.len_le_sizes kids
    have HC := Lib.hid hcell
    have HR := Lib.hid hrec
    have HN := Lib.hid hn
    have HI := Lib.hid ih
    have HT := Lib.hid ht
    have HID := Lib.hid hid
    clear hL hcell hrec hn ih ht hid
    have HAll := Lib.hid (cnt_all i kids)
    have HAny := Lib.hid (cnt_any i kids)
    generalize hlen : kids.length = len at *
    have HLEN := Lib.hid hlen
    clear hlen
    generalize hres : Pr.hasB i (.node op t n x y kids) = res
    have HRES := Lib.hid hres
    clear hres
    go_enter Try.func40, Try.ntmps40
    go_wp2_with fail
    go_loopw [5, 6] (fun many j wr => HasRel i kids len ((w.alloc (.cells #[.int .i64 op, .string t, .int .i64 n, .complex .f64 x y, .slice oa len cap] 39)).alloc (.cells #[.string i.id, .int .i64 r, .int .i64 c, .int .i64 st, .string i.kd, .int .i64 i.num, .complex .f64 i.ax i.ay, .bool d] 66)) many j wr) (fun _ j _ => len - (intOf j).toNat)
    case atStart => exact ⟨0, 0, Nat.zero_le _, rfl, rfl, Nat.le_refl _, by simp [Hid, cntB], Below.refl _ _⟩
    case round =>
      obtain ⟨k, m, hk, rfl, rfl, hm, HM, hb⟩ := hrel
      have G1 := Lib.hid (((Has.new w #[.int .i64 op, .string t, .int .i64 n, .complex .f64 x y, .slice oa len cap] 39).alloc (.cells #[.string i.id, .int .i64 r, .int .i64 c, .int .i64 st, .string i.kd, .int .i64 i.num, .complex .f64 i.ax i.ay, .bool d] 66)).below hb (by simp; omega))
      have G2 := Lib.hid ((Own.newAt (w.alloc (.cells #[.int .i64 op, .string t, .int .i64 n, .complex .f64 x y, .slice oa len cap] 39)) #[.string i.id, .int .i64 r, .int .i64 c, .int .i64 st, .string i.kd, .int .i64 i.num, .complex .f64 i.ax i.ay, .bool d] 66 (b := w.heap.size + 1) (by simp)).has.below hb (by simp))
      by_cases hlt : k < len
      · obtain ⟨q, hq⟩ : ∃ q, kids[k]? = some q := ⟨_, List.getElem?_eq_getElem (by rw [HLEN.out]; exact hlt)⟩
        obtain ⟨rfl, hB⟩ := HN.out (by omega)
        obtain ⟨oq, cq, hV⟩ := lies_val (HR.out k q hq)
        have hbw : Below w.heap.size w wr := below_new (below_new hb)
        obtain ⟨c0, c1, c2, c3, c4⟩ := pc_cells (w := wr) (fun j u hu => (hbw.cell (p := ⟨b, o + k * 5 + j, none⟩) hB).trans (HC.out k q hq j u hu))
        have L0 := (HR.out k q hq).later hbw (Nat.le_refl _)
        rw [hV] at c4 L0
        have hqs := Pr.size_mem (List.mem_of_getElem? hq)
        have CC := fun dd os => HI.out q (List.mem_of_getElem? hq) (.slice oq q.kids.length cq) (Sort.grow (redrawn wr dd) os) (L0.later (below_regrown _ _ _) (Nat.le_refl _)) (by omega)
        have r0 := fun dd os => cell_regrown c0 dd os
        have r1 := fun dd os => cell_regrown c1 dd os
        have r2 := fun dd os => cell_regrown c2 dd os
        have r3 := fun dd os => cell_regrown c3 dd os
        have r4 := fun dd os => cell_regrown c4 dd os
        have LA := fun dd os o => G1.out.regrown dd os o
        have LB := fun dd os o => G2.out.regrown dd os o
        have l1 := G1.out.cell
        have HB := Lib.hid hb
        have h9 := cnt_snoc i hq
        cases hs : Pr.hasB i q
        · rw [hs] at CC h9
          have m3 := fun dd os => Lib.hid (Calls.regrown_of (CC dd os))
          have HM1 := Lib.hid (show m = cntB i (kids.take (k + 1)) by rw [h9, HM.out]; rfl)
          clear hb hV L0 hs hq CC hbw h9
          go_wp2_with fail
          refine wp_region_quiet_below (by kernel_rfl) (by kernel_rfl) ?_
          repeat (first | go_big_quiet_step ((with_reducible exact (m3 _ _).out)) | quiet_step (with_reducible exact (m3 _ _).out))
          refine wpQuiet_nil ?_
          intro w7 hw'
          have hb' := Lib.hid (regrown_below hw')
          clear hw'
          clear m3 r0 r1 r2 r3 r4 LA LB
          go_wp2_with fail
          go_roundw
          case rel => exact ⟨k + 1, m, by omega, by go_num, by go_num, by omega, HM1.out, HB.out.trans (hb'.out.mono HB.out.size)⟩
          case measure => simp [intOf]; omega
        · rw [hs] at CC h9
          have m3 := fun dd os => Lib.hid (Calls.regrown_of (CC dd os))
          have HM1 := Lib.hid (show m + 1 = cntB i (kids.take (k + 1)) by rw [h9, HM.out]; rfl)
          clear hb hV L0 hs hq CC hbw h9
          go_wp2_with fail
          refine wp_region_quiet_below (by kernel_rfl) (by kernel_rfl) ?_
          repeat (first | go_big_quiet_step ((with_reducible exact (m3 _ _).out)) | quiet_step (with_reducible exact (m3 _ _).out))
          refine wpQuiet_nil ?_
          intro w7 hw'
          have hb' := Lib.hid (regrown_below hw')
          clear hw'
          clear m3 r0 r1 r2 r3 r4 LA LB
          go_wp2_with fail
          go_roundw
          case rel => exact ⟨k + 1, m + 1, by omega, by go_num, by go_num, by omega, HM1.out, HB.out.trans (hb'.out.mono HB.out.size)⟩
          case measure => simp [intOf]; omega
      · have e : k = len := by omega
        subst e
        have hm9 := HM.out
        rw [Pr.take_all kids (by rw [HLEN.out]; omega)] at hm9
        have HM9 := Lib.hid hm9
        have HB := Lib.hid hb
        clear hm9 HM
        have hbe := HB.out
        have l1 := G1.out.cell
        have l2 := G2.out.cell
        have z1 := G1.out.lt
        have z2 := G2.out.lt
        have BE := Lib.hid (below_new (below_new hbe))
        clear hbe
        have hop : op = 1 ∨ op = 2 ∨ op = 3 ∨ op = 4 ∨ op = 5 ∨ op = 6 ∨ op = 7 ∨ op = 8 ∨ op = 9 ∨ op = 10 ∨ (op ≠ 1 ∧ op ≠ 2 ∧ op ≠ 3 ∧ op ≠ 4 ∧ op ≠ 5 ∧ op ≠ 6 ∧ op ≠ 7 ∧ op ≠ 8 ∧ op ≠ 9 ∧ op ≠ 10) := by omega
        rcases hop with rfl | rfl | rfl | rfl | rfl | rfl | rfl | rfl | rfl | rfl | ⟨n1, n2, n3, n4, n5, n6, n7, n8, n9, n10⟩
        · have E := Lib.hid (show res = true by rw [← HRES.out]; simp [Pr.hasB])
          clear hb
          go_wp2_with fail
          all_goals
            go_ret
            exact ⟨ret_bool (by rw [E.out]; first | done | (rw [Bool.eq_iff_iff]; simp; done) | (simp_all; done)), BE.out⟩
        · have E := Lib.hid (show res = false by rw [← HRES.out]; simp [Pr.hasB])
          clear hb
          go_wp2_with fail
          all_goals
            go_ret
            exact ⟨ret_bool (by rw [E.out]; first | done | (rw [Bool.eq_iff_iff]; simp; done) | (simp_all; done)), BE.out⟩
        · have E := Lib.hid (show res = decide (i.kd.toList = t.toList) by rw [← HRES.out]; simp [Pr.hasB])
          clear hb
          go_wp2_with fail
          all_goals
            go_ret
            exact ⟨ret_bool (by rw [E.out]; first | done | (rw [Bool.eq_iff_iff]; simp; done) | (simp_all; done)), BE.out⟩
        · have E := Lib.hid (show res = begB i.id t by rw [← HRES.out]; simp [Pr.hasB])
          have C := fun w => Lib.hid (begins_calls i.id t w HID.out HT.out)
          clear hb
          go_wp2_with (go_at_call 55; refine (C _).out.mono ?_; rintro e w' ⟨rfl, hb'⟩)
          go_ret
          exact ⟨ret_bool E.out.symm, BE.out.trans (hb'.mono BE.out.size)⟩
        · have E := Lib.hid (show res = decide (i.num < n) by rw [← HRES.out]; simp [Pr.hasB])
          clear hb
          go_wp2_with fail
          all_goals
            go_ret
            exact ⟨ret_bool (by rw [E.out]; first | done | (rw [Bool.eq_iff_iff]; simp; done) | (simp_all; done)), BE.out⟩
        · have E := Lib.hid (show res = decide (n ≤ i.num) by rw [← HRES.out]; simp [Pr.hasB])
          clear hb
          go_wp2_with fail
          all_goals
            go_ret
            exact ⟨ret_bool (by rw [E.out]; first | done | (rw [Bool.eq_iff_iff]; simp; done) | (simp_all; done)), BE.out⟩
        · have E := Lib.hid (show res = (decide (0 ≤ farV i.ax i.ay x y) && decide (farV i.ax i.ay x y ≤ n)) by rw [← HRES.out]; simp [Pr.hasB, nearB])
          have C := fun w => Lib.hid (refFar_calls i.ax i.ay x y w)
          generalize farV i.ax i.ay x y = fv at *
          clear hb
          go_wp2_with (go_at_call 56; refine (C _).out.mono ?_; rintro e w' ⟨rfl, rfl⟩)
          all_goals
            go_ret
            exact ⟨ret_bool (by rw [E.out]; first | (simp_all; done) | (simp_all; omega)), BE.out⟩
        · have E := Lib.hid (show res = decide (m = k) by rw [← HRES.out, HM9.out, ← HAll.out]; simp [Pr.hasB])
          clear hb
          go_wp2_with fail
          all_goals
            go_ret
            exact ⟨ret_bool (by rw [E.out]; try (rw [Bool.eq_iff_iff]; simp); try omega), BE.out⟩
        · have E := Lib.hid (show res = decide (0 < m) by rw [← HRES.out, HM9.out, ← HAny.out]; simp [Pr.hasB])
          clear hb
          go_wp2_with fail
          all_goals
            go_ret
            exact ⟨ret_bool (by rw [E.out]; try (rw [Bool.eq_iff_iff]; simp); try omega), BE.out⟩
        · by_cases h0 : k = 0
          · subst h0
            have E := Lib.hid (show res = false by rw [← HRES.out, List.length_eq_zero_iff.1 HLEN.out]; simp [Pr.hasB, Pr.hasNot])
            clear hb
            go_wp2_with fail
            go_ret
            exact ⟨ret_bool E.out.symm, BE.out⟩
          · have h0' : 0 < k := by omega
            clear l1
            obtain ⟨q, hq⟩ : ∃ q, kids[0]? = some q := ⟨_, List.getElem?_eq_getElem (by rw [HLEN.out]; omega)⟩
            obtain ⟨rfl, hB⟩ := HN.out (by omega)
            obtain ⟨oq, cq, hV⟩ := lies_val (HR.out 0 q hq)
            have hbw : Below w.heap.size w wr := below_new (below_new hb)
            obtain ⟨c0, c1, c2, c3, c4⟩ := pc_cells (w := wr) (fun j u hu => (hbw.cell (p := ⟨b, o + 0 * 5 + j, none⟩) hB).trans (HC.out 0 q hq j u hu))
            have L0 := (HR.out 0 q hq).later hbw (Nat.le_refl _)
            rw [hV] at c4 L0
            have hqs := Pr.size_mem (List.mem_of_getElem? hq)
            have CC := fun dd os => HI.out q (List.mem_of_getElem? hq) (.slice oq q.kids.length cq) (Sort.grow (redrawn wr dd) os) (L0.later (below_regrown _ _ _) (Nat.le_refl _)) (by omega)
            have r0 := fun dd os => cell_regrown c0 dd os
            have r1 := fun dd os => cell_regrown c1 dd os
            have r2 := fun dd os => cell_regrown c2 dd os
            have r3 := fun dd os => cell_regrown c3 dd os
            have r4 := fun dd os => cell_regrown c4 dd os
            have LA := fun dd os o => G1.out.regrown dd os o
            have LB := fun dd os o => G2.out.regrown dd os o
            have l1 := G1.out.cell
            have E := Lib.hid (show res = !(Pr.hasB i q) by
              rw [← HRES.out]
              match kids, hq with
              | a :: l, hq => simp at hq; subst hq; simp [Pr.hasB, Pr.hasNot])
            have m3 := fun dd os => Lib.hid (Calls.regrown_of (CC dd os))
            have hk0 : ((k : Int) == 0) = false := by simp; omega
            generalize Pr.hasB i q = rq at *
            clear hb hV L0 hq CC hbw
            simp only [Nat.zero_mul, Nat.add_zero] at r0 r1 r2 r3 r4
            go_wp2_with fail
            refine wp_region_quiet_below (by kernel_rfl) (by kernel_rfl) ?_
            repeat (first | go_big_quiet_step ((with_reducible exact (m3 _ _).out)) | quiet_step (with_reducible exact (m3 _ _).out))
            refine wpQuiet_nil ?_
            intro w7 hw'
            have hb' := Lib.hid (regrown_below hw')
            clear hw' m3 r0 r1 r2 r3 r4 LA LB
            go_wp2_with fail
            go_ret
            exact ⟨ret_bool E.out.symm, BE.out.trans (hb'.out.mono BE.out.size)⟩
        · have E := Lib.hid (show res = false by rw [← HRES.out]; simp [Pr.hasB, n1, n3, n4, n5, n6, n7, n8, n9, n10])
          clear hb
          go_wp2_with fail
          go_ret
          exact ⟨ret_bool E.out.symm, BE.out⟩
end Go.Proofs.Ytjepnaefkfkpcaa
/- Whether a filter may be: the code's walks. -/
namespace Go.Proofs.Ytjepnaefkfkpcaa
set_option linter.unusedVariables false
set_option linter.unusedSimpArgs false
set_option maxRecDepth 100000
open Go.RowKit
end Go.Proofs.Ytjepnaefkfkpcaa
/- What is known: the document's Has, walked. -/
namespace Go.Proofs.Ytjepnaefkfkpcaa
set_option linter.unusedVariables false
set_option linter.unusedSimpArgs false
set_option maxRecDepth 100000
open Go.RowKit
def HkRel (l : List Fr) (id : ByteArray) (r c : Int) (len : Nat) (X Y : Array Value) (w : World) (iv : Value) (wr : World) : Prop :=
  ∃ k : Nat, k ≤ len ∧ iv = .int .i64 k ∧ Hid (∀ j f, j < k → l[j]? = some f → hasFr id r c f = false) ∧ Hid (AlS w X Y wr)
set_option maxRecDepth 100000 in
set_option maxHeartbeats 8000000 in
theorem refHasK_calls (K : Kn) (id : ByteArray) (r c : Int) (v : Value) (w : World) (hR : FrW w K.l v) :
    Calls Try.prog 41 #[knV K.star v, .string id, .agg #[.int .i64 r, .int .i64 c]] w fun e w' => e = .returned (.bool (hasK K id r c)) ∧ Below w.heap.size w w' := by
  obtain ⟨A, l⟩ := K
  simp only at hR ⊢
  obtain ⟨U, oa, cap, b0, o, rfl, hr⟩ := hR
  have HR := Lib.hid hr
  have hcap := hr.len
  have hmax := hr.max
  unfold maxLen at hmax
  clear hr
  have HE := Lib.hid (show hasK ⟨A, l⟩ id r c = (hasV A r c || l.any (hasFr id r c)) from rfl)
  generalize hasK ⟨A, l⟩ id r c = res at *
  generalize hn : l.length = len at *
  have HN := Lib.hid hn
  clear hn
  have I0 : AlS w (knA A (.slice oa len cap)) #[.int .i64 r, .int .i64 c] ((w.alloc (.cells (knA A (.slice oa len cap)) 31)).alloc (.cells #[.int .i64 r, .int .i64 c] 62)) :=
    ⟨(Has.new w _ _).alloc _, (Own.newAt _ _ _ (by simp)).has, ((Below.refl _ _).alloc (Nat.le_refl _) _).alloc (by simp) _⟩
  have HI0 := Lib.hid I0
  clear I0
  have C := Lib.hid (hasVec_calls A r c ((w.alloc (.cells (knA A (.slice oa len cap)) 31)).alloc (.cells #[.int .i64 r, .int .i64 c] 62)))
  cases hq : hasV A r c
  case true =>
    rw [hq] at C
    have E := Lib.hid (show res = true by rw [HE.out, hq]; rfl)
    clear hq
    go_enter Try.func41, Try.ntmps41
    go_wp2_with (go_at_call 57; refine C.out.mono ?_; rintro e w2 ⟨rfl, hb2⟩)
    go_ret
    exact ⟨ret_bool E.out.symm, (HI0.out.later hb2).bel⟩
  rw [hq] at C
  have HE2 := Lib.hid (show res = l.any (hasFr id r c) by rw [HE.out, hq]; rfl)
  clear hq HE
  go_enter Try.func41, Try.ntmps41
  go_wp2_with (go_at_call 57; refine C.out.mono ?_; rintro e w2 ⟨rfl, hb2⟩; have HI2 := Lib.hid (HI0.out.later hb2))
  clear hb2 HI0 C
  go_loopw [7] (fun iv wr => HkRel l id r c len (knA A (.slice oa len cap)) #[.int .i64 r, .int .i64 c] w iv wr) (fun iv _ => len - (intOf iv).toNat)
  case atStart => exact ⟨0, Nat.zero_le _, rfl, fun j f hj => absurd hj (by omega), HI2⟩
  case round =>
    clear HI2
    obtain ⟨k, hk, rfl, HA, HS⟩ := hrel
    have l1 := HS.out.o1.cell
    have z1 := HS.out.o1.lt
    by_cases hlt : k < len
    · obtain ⟨f, hf⟩ : ∃ f, l[k]? = some f := ⟨_, List.getElem?_eq_getElem (by rw [HN.out]; exact hlt)⟩
      obtain ⟨rfl, hb0⟩ := HR.out.at0 (by rw [HN.out]; omega)
      obtain ⟨c0, c1, c2, c3, c4, c5, c6, c7, c8⟩ := fc_cells (w := wr) (fun j z hz => (HS.out.bel.cell (p := ⟨b0, o + k * 9 + j, none⟩) hb0).trans (HR.out.cell k f hf j z hz))
      have htx := (HR.out.ids k f hf).later HS.out.bel (Nat.le_refl _)
      obtain ⟨ou, cu, hu⟩ := htx.val
      rw [hu] at c0 htx
      have m1 := fun dd os => Lib.hid (Calls.regrown_of ((among_calls f.ids id _ (Sort.grow (redrawn wr dd) os) (htx.later (below_regrown _ _ _) (Nat.le_refl _))).mono (fun e w' h => (⟨h.1, by rw [← h.2]; exact Below.refl _ _⟩ : e = .returned (.bool (amongB f.ids id)) ∧ Below _ _ w'))))
      have m2 := fun dd os => Lib.hid (Calls.regrown_of (hasVec_calls f.v r c (Sort.grow (redrawn wr dd) os)))
      have HF := Lib.hid hf
      clear hf hu htx
      have LA := fun dd os q => HS.out.o1.regrown dd os q
      have LB := fun dd os q => HS.out.o2.regrown dd os q
      have r0 := fun dd os => cell_regrown c0 dd os
      have r1 := fun dd os => cell_regrown c1 dd os
      have r2 := fun dd os => cell_regrown c2 dd os
      have r3 := fun dd os => cell_regrown c3 dd os
      have r4 := fun dd os => cell_regrown c4 dd os
      have r5 := fun dd os => cell_regrown c5 dd os
      have r6 := fun dd os => cell_regrown c6 dd os
      have r7 := fun dd os => cell_regrown c7 dd os
      have r8 := fun dd os => cell_regrown c8 dd os
      clear c0 c1 c2 c3 c4 c5 c6 c7 c8
      have k0 : (0 : Int) ≤ (k : Int) := by omega
      have k1 : (k : Int) < (len : Int) := by omega
      have HFR := Lib.hid (show hasFr id r c f = (amongB f.ids id && hasV f.v r c) from rfl)
      have HNX : Hid (hasFr id r c f = false → ∀ j g, j < k + 1 → l[j]? = some g → hasFr id r c g = false) := fun h j g hj hg => by
        by_cases e : j = k
        · subst e; rw [HF.out] at hg; cases hg; exact h
        · exact HA.out j g (by omega) hg
      generalize amongB f.ids id = am at *
      generalize hasV f.v r c = hv at *
      cases am
      · have HN2 := Lib.hid (HNX.out (by rw [HFR.out]; rfl))
        go_wp2_with fail
        refine wp_region_quiet_below (by kernel_rfl) (by kernel_rfl) ?_
        repeat (first | go_big_quiet_step ((first | with_reducible exact (m1 _ _).out | with_reducible exact (m2 _ _).out)) | quiet_step (first | with_reducible exact (m1 _ _).out | with_reducible exact (m2 _ _).out))
        refine wpQuiet_nil ?_
        intro w7 hw'
        have hb' := Lib.hid (regrown_below hw')
        clear hw' m1 m2 LA LB r0 r1 r2 r3 r4 r5 r6 r7 r8
        have HS7 := Lib.hid (HS.out.later hb'.out)
        clear l1
        go_wp2_with fail
        go_roundw
        case rel => exact ⟨k + 1, by omega, by go_num, HN2, HS7⟩
        case measure => simp [intOf]; omega
      · cases hv
        · have HN2 := Lib.hid (HNX.out (by rw [HFR.out]; rfl))
          go_wp2_with fail
          refine wp_region_quiet_below (by kernel_rfl) (by kernel_rfl) ?_
          repeat (first | go_big_quiet_step ((first | with_reducible exact (m1 _ _).out | with_reducible exact (m2 _ _).out)) | quiet_step (first | with_reducible exact (m1 _ _).out | with_reducible exact (m2 _ _).out))
          refine wpQuiet_nil ?_
          intro w7 hw'
          have hb' := Lib.hid (regrown_below hw')
          clear hw' m1 m2 LA LB r0 r1 r2 r3 r4 r5 r6 r7 r8
          have HS7 := Lib.hid (HS.out.later hb'.out)
          clear l1
          go_wp2_with fail
          go_roundw
          case rel => exact ⟨k + 1, by omega, by go_num, HN2, HS7⟩
          case measure => simp [intOf]; omega
        · have E := Lib.hid (show res = true by
            rw [HE2.out, List.any_eq_true]
            exact ⟨f, List.mem_of_getElem? HF.out, by rw [HFR.out]; rfl⟩)
          go_wp2_with fail
          refine wp_region_quiet_below (by kernel_rfl) (by kernel_rfl) ?_
          repeat (first | go_big_quiet_step ((first | with_reducible exact (m1 _ _).out | with_reducible exact (m2 _ _).out)) | quiet_step (first | with_reducible exact (m1 _ _).out | with_reducible exact (m2 _ _).out))
          refine wpQuiet_nil ?_
          intro w7 hw'
          have hb' := Lib.hid (regrown_below hw')
          clear hw' m1 m2 LA LB r0 r1 r2 r3 r4 r5 r6 r7 r8
          clear l1
          go_wp2_with fail
          go_ret
          exact ⟨ret_bool E.out.symm, HS.out.bel.trans (hb'.out.mono HS.out.bel.size)⟩
    · have e : len = k := by omega
      subst e
      have E := Lib.hid (show res = false by
        rw [HE2.out, List.any_eq_false]
        intro f hf
        obtain ⟨j, hj, e⟩ := List.mem_iff_getElem.1 hf
        have := HA.out j f (by have := HN.out; omega) (by rw [List.getElem?_eq_getElem hj, e])
        simp [this])
      go_wp2_with fail
      go_ret
      exact ⟨ret_bool E.out.symm, HS.out.bel⟩
end Go.Proofs.Ytjepnaefkfkpcaa
