/- add: the code's walk. -/
import Derived.Test.YtgfepbcolcmdgaaAdd
import Derived.Test.YtgfepbcolcmdgaaRefPlain
namespace Go.Proofs.Ytgfepbcolcmdgaa
open Go.RowKit

theorem addC_skip {l m : List Pr} {k : Nat} {q : Pr} (hq : m[k]? = some q) (h : Pr.twice l q = true) : Pr.addC l (m.take (k + 1)) = Pr.addC l (m.take k) := by
  rw [Pr.take_one hq]; unfold Pr.addC; rw [List.filter_append]; simp [h]
theorem addC_put {l m : List Pr} {k : Nat} {q : Pr} (hq : m[k]? = some q) (h : Pr.twice l q = false) : Pr.addC l (m.take (k + 1)) = Pr.addC l (m.take k) ++ [q] := by
  rw [Pr.take_one hq]; unfold Pr.addC; rw [List.filter_append]; simp [h]
theorem addC_len (l m : List Pr) : (Pr.addC l m).length ≤ l.length + m.length := by
  unfold Pr.addC; rw [List.length_append]; have := List.length_filter_le (fun k => !Pr.twice l k) m; omega

/-- A step after which row i is another: what lies apart from all rows lies so still. -/
theorem Stock.push_lies {w w' : World} {base : Nat} {R : Nat → Rw} {i : Nat} {r : Rw} {g n cap : Nat} {q : Pr} {v : Value} (hgrow : w.grownBy w' (R i).v.ownBlock) (hat : (R i).v.ownBlock = some g ∨ g = w.heap.size) (hv : r.v = .slice (some ⟨g, 0, none⟩) n cap)
    (h : Lies 5 pc (Sof w base R) w q v) : Lies 5 pc (Sof w' base (upd R i r)) w' q v := by
  refine h.mono (fun b o hb => hgrow.cell_far _ hb.2.1 (hb.2.2 i)) (fun b hb => ⟨hb.1, Nat.lt_of_lt_of_le hb.2.1 hgrow.size, fun j => ?_⟩)
  by_cases e : j = i
  · subst e
    rw [upd_same, hv]
    simp only [Value.ownBlock, ne_eq, Option.some.injEq]
    intro e
    rcases hat with h1 | h1
    · exact hb.2.2 j (by rw [h1, e])
    · have := hb.2.1; omega
  · rw [upd_far _ _ e]; exact hb.2.2 j
theorem Sof_later {w w' : World} {base : Nat} {R : Nat → Rw} (hb : w.heap.size ≤ w'.heap.size) {b : Nat} (h : Sof w base R b) : Sof w' base R b := ⟨h.1, Nat.lt_of_lt_of_le h.2.1 hb, h.2.2⟩
theorem sof_lies {w w' : World} {base : Nat} {R : Nat → Rw} {q : Pr} {v : Value} (hb : Below w.heap.size w w') (h : Lies 5 pc (Sof w base R) w q v) : Lies 5 pc (Sof w' base R) w' q v :=
  h.mono (fun b o hS => hb.cell (p := ⟨b, o, none⟩) hS.2.1) fun b hS => Sof_later hb.size hS
theorem sof_low {w : World} {base : Nat} {R : Nat → Rw} {q : Pr} {v : Value} (h : Lies 5 pc (Sof w base R) w q v) : LP w q v :=
  h.mono (fun _ _ _ => rfl) fun b hS => hS.2.1
theorem upd_upd (R : Nat → Rw) (i : Nat) (r r' : Rw) : upd (upd R i r) i r' = upd R i r' := by
  funext j; unfold upd; split <;> simp_all
theorem upd_self (R : Nat → Rw) (i : Nat) : upd R i (R i) = R := by
  funext j; unfold upd; split
  · subst j; rfl
  · rfl

/-- The loop's word: k of m are looked at; g: where the row began that is looked through. -/
structure AddInv (base : Nat) (R : Nat → Rw) (i : Nat) (m : List Pr) (vm : Value) (g : Nat) (w : World) (k : Nat) (r : Rw) (wr : World) : Prop where
  lst : r.l = Pr.addC (R i).l (m.take k)
  st : Stock wr base (upd R i r)
  gr : w.grownBy wr (R i).v.ownBlock
  rb : ∀ b, r.v.ownBlock = some b → (R i).v.ownBlock = some b ∨ w.heap.size ≤ b
  bas : base ≤ wr.heap.size
  vs : ∀ j, j < (R i).l.length → r.V j = (R i).V j
  ah : ∀ j p, (R i).l[j]? = some p → ∀ a u, (pc p ((R i).V j))[a]? = some u → wr.cell? ⟨g, j * 5 + a, none⟩ = some u
  lt : 0 < (R i).l.length → g < wr.heap.size
  ml : Lies 5 pc (Sof wr base (upd R i r)) wr (.node 0 ⟨#[]⟩ 0 0 0 m) vm

theorem AddInv.later {base : Nat} {R : Nat → Rw} {i : Nat} {m : List Pr} {vm : Value} {g : Nat} {w : World} {k : Nat} {r : Rw} {wr w' : World} (h : AddInv base R i m vm g w k r wr) (hb : Below wr.heap.size wr w') : AddInv base R i m vm g w k r w' :=
  ⟨h.lst, h.st.later hb, h.gr.trans ⟨hb.os, hb.tape, hb.output, hb.size, fun k hk _ => hb.block k hk⟩, h.rb, Nat.le_trans h.bas hb.size, h.vs, fun j p hp a u hu => (hb.cell (p := ⟨g, j * 5 + a, none⟩) (h.lt (by have := some_pos hp; omega))).trans (h.ah j p hp a u hu), fun h0 => Nat.lt_of_lt_of_le (h.lt h0) hb.size, sof_lies hb h.ml⟩
theorem AddInv.alloc {base : Nat} {R : Nat → Rw} {i : Nat} {m : List Pr} {vm : Value} {g : Nat} {w : World} {k : Nat} {r : Rw} {wr : World} (h : AddInv base R i m vm g w k r wr) (o : Obj) : AddInv base R i m vm g w k r (wr.alloc o) := h.later ((Below.refl _ _).alloc (Nat.le_refl _) _)
theorem AddInv.skip {base : Nat} {R : Nat → Rw} {i : Nat} {m : List Pr} {vm : Value} {g : Nat} {w : World} {k : Nat} {r : Rw} {wr : World} (h : AddInv base R i m vm g w k r wr) {q : Pr} (hq : m[k]? = some q) (ht : Pr.twice (R i).l q = true) : AddInv base R i m vm g w (k + 1) r wr :=
  ⟨by rw [h.lst, addC_skip hq ht], h.st, h.gr, h.rb, h.bas, h.vs, h.ah, h.lt, h.ml⟩
theorem AddInv.pre {base : Nat} {R : Nat → Rw} {i : Nat} {m : List Pr} {vm : Value} {g : Nat} {w : World} {k : Nat} {r : Rw} {wr : World} (h : AddInv base R i m vm g w k r wr) {j : Nat} {p : Pr} (hp : (R i).l[j]? = some p) : r.l[j]? = some p := by
  rw [h.lst]; unfold Pr.addC; rw [List.getElem?_append_left (some_pos hp)]; exact hp
/-- The row that is looked through lies there still. -/
theorem AddInv.ahead {base : Nat} {R : Nat → Rw} {i : Nat} {m : List Pr} {vm : Value} {g : Nat} {w : World} {k : Nat} {r : Rw} {wr : World} (h : AddInv base R i m vm g w k r wr) {oa : Option Addr} {cap : Nat} (h1 : (R i).l.length ≤ cap) (h2 : cap ≤ maxLen) (hg : 0 < (R i).l.length → oa = some ⟨g, 0, none⟩) :
    LK wr (R i).l (.slice oa (R i).l.length cap) := by
  refine .mk 0 ⟨#[]⟩ 0 0 0 _ oa cap g 0 (R i).V (by decide) h1 h2 (fun hp => ⟨hg hp, h.lt hp⟩) (fun j p hp a u hu => ?_) fun j p hp => ?_
  · rw [Nat.zero_add]; exact h.ah j p hp a u hu
  · have h3 := (h.st.row i).2
    rw [upd_same] at h3
    have h4 := h3 j p (h.pre hp)
    rw [h.vs j (some_pos hp)] at h4
    exact sof_low h4
theorem AddInv.push {base : Nat} {R : Nat → Rw} {i : Nat} {m : List Pr} {vm : Value} {g0 : Nat} {w : World} {k : Nat} {r : Rw} {wr w' : World} (h : AddInv base R i m vm g0 w k r wr) {q : Pr} {vq : Value} (hq : m[k]? = some q) (ht : Pr.twice (R i).l q = false) (hl : Lies 5 pc (Sof wr base (upd R i r)) wr q vq)
    {g cap n : Nat} (hn : n = r.l.length + 1)
    (hown : w'.ownsRow base 33 5 (.slice (some ⟨g, 0, none⟩) n cap) n (newsOf r.V 0 r.l ++ newsOf (fun _ => vq) 0 [q])) (hgrow : wr.grownBy w' r.v.ownBlock) (hat : r.v.ownBlock = some g ∨ (g = wr.heap.size ∧ wr.grownBy w' none)) :
    AddInv base R i m vm g0 w (k + 1) ⟨r.l ++ [q], .slice (some ⟨g, 0, none⟩) n cap, glueV r.l.length r.V fun _ => vq⟩ w' := by
  have hr : (upd R i r) i = r := upd_same R i r
  have hat' : r.v.ownBlock = some g ∨ g = wr.heap.size := by
    rcases hat with h1 | h1
    · exact .inl h1
    · exact .inr h1.1
  have hS := h.st.push i [q] (fun _ => vq) (fun j p hp => by
    match j, hp with
    | 0, hp => simp at hp; subst hp; exact hl) (n := n) (cap := cap) (g := g) (by rw [hr, hn]; rfl) (by rw [hr]; exact hown) (by rw [hr]; exact hgrow) (by rw [hr]; exact hat')
  rw [hr, upd_upd] at hS
  have hgr : w.grownBy w' (R i).v.ownBlock := ⟨hgrow.os.trans h.gr.os, hgrow.tape.trans h.gr.tape, hgrow.output.trans h.gr.output, Nat.le_trans h.gr.size hgrow.size, fun b hb hne => (hgrow.block b (Nat.lt_of_lt_of_le hb h.gr.size) (fun e => by
    rcases h.rb b e.symm with h1 | h1
    · exact hne h1.symm
    · omega)).trans (h.gr.block b hb hne)⟩
  have hrb : ∀ b, (Value.slice (some ⟨g, 0, none⟩) n cap).ownBlock = some b → (R i).v.ownBlock = some b ∨ w.heap.size ≤ b := by
    intro b hb
    simp only [Value.ownBlock, Option.some.injEq] at hb
    subst hb
    rcases hat' with h1 | h1
    · exact h.rb g h1
    · exact .inr (by rw [h1]; exact h.gr.size)
  refine ⟨by rw [addC_put hq ht, ← h.lst], hS, hgr, hrb, Nat.le_trans h.bas hgrow.size, fun j hj => ?_, fun j p hp a u hu => ?_, fun h0 => Nat.lt_of_lt_of_le (h.lt h0) hgrow.size, ?_⟩
  · have : j < r.l.length := by rw [h.lst]; unfold Pr.addC; rw [List.length_append]; omega
    simp only [glueV, if_pos this]
    exact h.vs j hj
  · have hg0 := h.lt (by have := some_pos hp; omega)
    rcases hat with h1 | h1
    · by_cases e : g0 = g
      · subst e
        have hpr := h.pre hp
        have ha : a < 5 := by have := (List.getElem?_eq_some_iff.1 hu).1; rwa [pc_len] at this
        have hj := some_pos hpr
        rw [hown.cellAt (j * 5 + a) (by omega), List.getElem?_append_left (by rw [news_len]; omega), news_get _ _ _ _ _ hpr _ ha, Nat.zero_add, h.vs j (some_pos hp)]
        exact hu
      · rw [hgrow.cell_far ⟨g0, j * 5 + a, none⟩ hg0 (by rw [h1]; intro e'; cases e'; exact e rfl)]
        exact h.ah j p hp a u hu
    · rw [h1.2.cell_far ⟨g0, j * 5 + a, none⟩ hg0 (by simp)]
      exact h.ah j p hp a u hu
  · have := Stock.push_lies (R := upd R i r) (i := i) (r := ⟨r.l ++ [q], .slice (some ⟨g, 0, none⟩) n cap, glueV r.l.length r.V fun _ => vq⟩) (by rw [hr]; exact hgrow) (by rw [hr]; exact hat') rfl h.ml
    rw [upd_upd] at this
    exact this

theorem AddInv.start {base : Nat} {R : Nat → Rw} {i : Nat} {m : List Pr} {vm : Value} {g cap : Nat} {oa : Option Addr} {w : World} (hS : Stock w base R) (hb : base ≤ w.heap.size) (hm : Lies 5 pc (Sof w base R) w (.node 0 ⟨#[]⟩ 0 0 0 m) vm)
    (ev : (R i).v = .slice oa (R i).l.length cap) (h3 : 0 < (R i).l.length → oa = some ⟨g, 0, none⟩ ∧ base ≤ g ∧ g < w.heap.size) : AddInv base R i m vm g w 0 (R i) w := by
  refine ⟨by simp [Pr.addC], by rw [upd_self]; exact hS, ⟨rfl, rfl, rfl, Nat.le_refl _, fun _ _ _ => rfl⟩, fun _ hb => .inl hb, hb, fun _ _ => rfl, fun j p hp a u hu => ?_, fun h => (h3 h).2.2, by rw [upd_self]; exact hm⟩
  obtain ⟨rfl, _⟩ := h3 (by have := some_pos hp; omega)
  obtain ⟨⟨a0, a1, a2, a3, a4⟩, _⟩ := hS.at i ev hp
  match a, hu with
  | 0, hu => cases hu; exact a0
  | 1, hu => cases hu; exact a1
  | 2, hu => cases hu; exact a2
  | 3, hu => cases hu; exact a3
  | 4, hu => cases hu; exact a4

def AddRel (base : Nat) (R : Nat → Rw) (i : Nat) (m : List Pr) (len : Nat) (vm : Value) (g : Nat) (w : World) (lv iv : Value) (wr : World) : Prop :=
  ∃ (k : Nat) (r : Rw), k ≤ len ∧ iv = .int .i64 k ∧ lv = r.v ∧ Hid (AddInv base R i m vm g w k r wr)

set_option maxRecDepth 100000 in
set_option maxHeartbeats 4000000 in
theorem add_calls (base : Nat) (R : Nat → Rw) (i : Nat) (m : List Pr) (om oa : Option Addr) (cm cap : Nat) (w : World) (hS : Stock w base R) (hb : base ≤ w.heap.size) (hm : Lies 5 pc (Sof w base R) w (.node 0 ⟨#[]⟩ 0 0 0 m) (.slice om m.length cm))
    (ev : (R i).v = .slice oa (R i).l.length cap) (hlen : (R i).l.length + m.length ≤ 10000) :
    Calls Try.prog 39 #[.slice oa (R i).l.length cap, .slice om m.length cm] w fun e w' => ∃ r : Rw, e = .returned r.v ∧ r.l = Pr.addC (R i).l m ∧ Stock w' base (upd R i r) ∧ w.grownBy w' (R i).v.ownBlock ∧ ∀ b, r.v.ownBlock = some b → (R i).v.ownBlock = some b ∨ w.heap.size ≤ b := by
  obtain ⟨oa', cap', g, ev', h1, h2, h3⟩ := hS.slice i
  rw [ev] at ev'
  cases ev'
  have I0 := Lib.hid (AddInv.start hS hb hm ev h3)
  have H3 := Lib.hid h3
  have EV := Lib.hid ev
  have HC2 := Lib.hid h2
  obtain ⟨i0, hi, hz0, hz1, hz2⟩ := info_parts info_pred
  clear hS hm h3 ev
  unfold maxLen at h2
  generalize hn0 : (R i).l.length = n0 at *
  have HN0 := Lib.hid hn0
  generalize hlm : m.length = lm at *
  have HLM := Lib.hid hlm
  clear hn0 hlm
  go_enter Try.func39, Try.ntmps39
  go_wp2_with fail
  go_loopw [0, 11] (fun lv iv wr => AddRel base R i m lm (.slice om lm cm) g w lv iv wr) (fun _ iv _ => lm - (intOf iv).toNat)
  case atStart => exact ⟨0, R i, Nat.zero_le _, rfl, EV.out.symm, I0⟩
  case round =>
    obtain ⟨k, r, hk, rfl, rfl, HI⟩ := hrel
    by_cases hlt : k < lm
    · obtain ⟨q, hq⟩ : ∃ q, m[k]? = some q := ⟨_, List.getElem?_eq_getElem (by rw [HLM.out]; exact hlt)⟩
      obtain ⟨_, _, b, o, V, e1, _, hl, hc, hn, hcell, hrec⟩ := lies_slice HI.out.ml
      simp only [Pr.kids_node, HLM.out] at e1 hl hn hcell hrec
      cases e1
      obtain ⟨rfl, hB⟩ := hn (by omega)
      obtain ⟨oq, cq, hV⟩ := lies_val (hrec k q hq)
      obtain ⟨c0, c1, c2, c3, c4⟩ := pc_cells (w := wr) (fun j u hu => hcell k q hq j u hu)
      have Lq := hrec k q hq
      rw [hV] at c4 Lq
      have zb := hB.2.1
      have HLq := Lib.hid Lq
      have HQ := Lib.hid hq
      have HIa := Lib.hid (HI.out.alloc (.cells #[.int .i64 q.op, .string q.text, .int .i64 q.n, .complex .f64 q.x q.y, .slice oq q.kids.length cq] 33))
      have CC := contains2_calls q (.slice oq q.kids.length cq) (R i).l oa cap (wr.alloc (.cells #[.int .i64 q.op, .string q.text, .int .i64 q.n, .complex .f64 q.x q.y, .slice oq q.kids.length cq] 33)) (HIa.out.ahead (by rw [HN0.out]; exact h1) HC2.out (fun h0 => (H3.out (by rw [← HN0.out]; exact h0)).1)) wr.heap.size (Has.new _ _ _) (sof_low (sof_lies ((Below.refl _ _).alloc (Nat.le_refl _) _) Lq))
      have O1 := Lib.hid (Own.new wr #[.int .i64 q.op, .string q.text, .int .i64 q.n, .complex .f64 q.x q.y, .slice oq q.kids.length cq] 33)
      rw [HN0.out] at CC
      clear hcell hrec hn Lq hq hB hV
      cases hs : Pr.twice (R i).l q
      · have HS := Lib.hid hs
        rw [hs] at CC
        have CC := Lib.hid CC
        clear hs
        go_wp2_with fail
        refine CC.out.mono ?_
        rintro e w2 ⟨rfl, hb2⟩
        have HI2 := Lib.hid (HIa.out.later hb2)
        have LQ2 := Lib.hid (sof_lies (below_new hb2) HLq.out)
        have O2 := Lib.hid (O1.out.later hb2)
        clear hb2
        have l2 := O2.out.cell
        have z2 := O2.out.lt
        have hrl : r.l.length + 1 ≤ 10000 := by
          rw [HI2.out.lst]
          have := addC_len (R i).l (m.take k)
          rw [List.length_take, HN0.out, HLM.out] at this
          omega
        go_wp2_with (at_builtin; refine wpList_append_two _ (by rfl) _ _ _ (by rfl) base 33 i0 _ 5 72 Try.underlying31 hi hz0 hz1 hz2 rfl (by omega) r.v r.l.length (newsOf r.V 0 r.l) (by rfl) (by have := ((HI2.out.alloc (.cells #[.int .i64 q.op, .string q.text, .int .i64 q.n, .complex .f64 q.x q.y, .slice oq q.kids.length cq] 33)).st.row i).1; rw [upd_same] at this; exact this) ⟨w2.heap.size, 0, none⟩ 1 1 (newsOf (fun _ => Value.slice oq q.kids.length cq) 0 [q]) (by rfl) (by rfl) news1 (news1_one rfl) (by omega) (by unfold maxLen; omega) (by omega) (by have := HI2.out.bas; simp; omega) (w2.heap.size + 1) (by simp) ?_; intro g' cap' w3 hown3 hgrow hat hlt3)
        have HI3 := Lib.hid ((HI2.out.alloc (.cells #[.int .i64 q.op, .string q.text, .int .i64 q.n, .complex .f64 q.x q.y, .slice oq q.kids.length cq] 33)).push HQ.out HS.out (sof_lies ((Below.refl _ _).alloc (Nat.le_refl _) _) LQ2.out) rfl hown3 hgrow (by simpa using hat))
        clear hown3 hgrow hat l2
        go_roundw
        case rel => exact ⟨k + 1, _, by omega, by go_num, rfl, HI3⟩
        case measure => simp [intOf]; omega
      · have HS := Lib.hid hs
        rw [hs] at CC
        have CC := Lib.hid CC
        clear hs
        go_wp2_with (go_at_call 34; refine CC.out.mono ?_; rintro e w2 ⟨rfl, hb2⟩)
        go_roundw
        case rel => exact ⟨k + 1, r, by omega, by go_num, rfl, (HIa.out.later hb2).skip HQ.out HS.out⟩
        case measure => simp [intOf]; omega
    · have e : k = lm := by omega
      subst e
      go_wp2_with fail
      go_ret
      refine ⟨r, rfl, ?_, HI.out.st, HI.out.gr, HI.out.rb⟩
      rw [HI.out.lst, Pr.take_all m (by rw [HLM.out]; omega)]

end Go.Proofs.Ytgfepbcolcmdgaa
