/- Those of a row that don't stand in another one, put behind it: the code's walks (add), and an append that says what stays. -/
import Derived.Test.YtgfepbcolcmdgaaHas
import Derived.Test.YtgfepbcolcmdgaaPlainC
import Derived.Test.YtgfepbcolcmdgaaSet5
import Derived.Deep.DeepAppendRoom
namespace Go.Proofs.Ytgfepbcolcmdgaa
open Go.RowKit

/-! ### An append, and what stays where it was -/
theorem run_append_two {P : Program} (w : World) (t ty : TypeId) (base : Nat) (e : TypeId) (i : TypeInfo) (z : Value) (size bytes : Nat) (ht : P.underlying t = some (.slice e)) (hi : P.info? e = some i) (hz : i.zero = some z)
    (hsize : i.size = size) (hby : i.bytes = bytes) (hzs : z.cells.size = size) (hsz : 0 < size)
    (v : Value) (n : Nat) (xs : List Value) (hown : w.ownsRow base e size v n xs)
    (ad : Addr) (m c : Nat) (news : List Value) (hl : news.length = m * size) (hnews : ∀ j u, news[j]? = some u → w.cell? (ad.add j) = some u) (h1 : ∀ u ∈ news, u.oneCell' = true)
    (hm : 0 < m) (h63 : n + m ≤ maxLen) (hbytes : (n + m) * bytes ≤ 140737488355328) (hbase : base ≤ w.heap.size) (H : Nat) (hH : w.heap.size = H) :
    ∃ g cap w', (Builtin.append_ #[t, t] ty #[v, .slice (some ad) m c]).run P w = .ok (.slice (some ⟨g, 0, none⟩) (n + m) cap) w' ∧
      w'.ownsRow base e size (.slice (some ⟨g, 0, none⟩) (n + m) cap) (n + m) (xs ++ news) ∧ w.grownBy w' v.ownBlock ∧ (v.ownBlock = some g ∨ (g = H ∧ w.grownBy w' none)) ∧ g < w'.heap.size := by
  obtain ⟨g, cap, w', hr, h2, h3, h4, h5⟩ := run_append_lies w t ty base e i z size bytes ht hi hz hsize hby hzs hsz v n xs hown ad m c news hl hnews h1 hm h63 hbytes hbase H hH
  refine ⟨g, cap, w', hr, h2, h3, ?_, h5⟩
  rcases h4 with h4 | h4
  · exact .inl h4
  · rcases hown.2 with ⟨rfl, _⟩ | ⟨g0, cap0, cur, rfl, hbg, hg, hnc, hcm, hcs, htake⟩
    · exact .inr ⟨h4, h3⟩
    · by_cases hroom : n + m ≤ cap0
      · obtain ⟨w2, hr2, _⟩ := run_append_own_spare (P := P) w base t ty e i size ht hi hsize g0 n cap0 xs hown ad m c news hl hnews h1 hroom
        rw [hr] at hr2
        cases hr2
        exact .inl rfl
      · have h63' : n + m ≤ 9223372036854775807 := by simp only [maxLen] at h63; omega
        have hr2 := run_append_grow (P := P) w t ty e i z ht hi hz ⟨g0, 0, none⟩ n cap0 xs (by rw [hsize]; exact hown.1) (hown.cells (g := g0) rfl) ad m c news (by rw [hsize]; exact hl) hnews (by omega) (by omega) (growslice_fits (by omega) (by rw [hby]; exact hbytes))
        rw [hr] at hr2
        cases hr2
        exact .inr ⟨hH, ⟨rfl, rfl, rfl, by simp, fun k hk _ => Below.heap_alloc w.drew _ _ hk⟩⟩
theorem wpList_append_two {P : Program} (w : World) {ops : Array Oper} {rest : List Oper} {o : Oper} {a : Act} {Q : Exit → Act → World → Prop} (hgd : o.guard = none) (s x : Operand) (t : TypeId)
    (ho : o.op = .call { callee := .builtin .append, args := #[s, x], argTypes := #[t, t] })
    (base : Nat) (e : TypeId) (i : TypeInfo) (z : Value) (size bytes : Nat) (ht : P.underlying t = some (.slice e)) (hi : P.info? e = some i) (hz : i.zero = some z)
    (hsize : i.size = size) (hby : i.bytes = bytes) (hzs : z.cells.size = size) (hsz : 0 < size)
    (v : Value) (n : Nat) (xs : List Value) (hs : a.eval s = v) (hown : w.ownsRow base e size v n xs)
    (ad : Addr) (m c : Nat) (news : List Value) (hx : a.eval x = .slice (some ad) m c) (hl : news.length = m * size) (hnews : ∀ j u, news[j]? = some u → w.cell? (ad.add j) = some u) (h1 : ∀ u ∈ news, u.oneCell' = true)
    (hm : 0 < m) (h63 : n + m ≤ maxLen) (hbytes : (n + m) * bytes ≤ 140737488355328) (hbase : base ≤ w.heap.size) (H : Nat) (hH : w.heap.size = H)
    (h : ∀ g cap w', w'.ownsRow base e size (.slice (some ⟨g, 0, none⟩) (n + m) cap) (n + m) (xs ++ news) → w.grownBy w' v.ownBlock → (v.ownBlock = some g ∨ (g = H ∧ w.grownBy w' none)) → g < w'.heap.size → wpList P ops Q rest (a.put o.dst (.slice (some ⟨g, 0, none⟩) (n + m) cap)) w') : wpList P ops Q (o :: rest) a w := by
  refine wpList_plain hgd fun K hK => ?_
  obtain ⟨g, cap, w', hr, h2, h3, h4, h5⟩ := run_append_two (P := P) w t o.type base e i z size bytes ht hi hz hsize hby hzs hsz v n xs hown ad m c news hl hnews h1 hm h63 hbytes hbase H hH
  unfold Oper.wp execOp
  simp only [ho, resolve, invoke, builtin, Sem.run_bind, Sem.run_pure, Result.andThen_ok, List.map_toArray, List.map_cons, List.map_nil, hs, hx, hr]
  exact hK _ _ (h g cap w' h2 h3 h4 h5)

/-! ### One that stands in a row -/
set_option maxHeartbeats 1000000 in
theorem add1_calls (p q : Pr) (vp vq : Value) (w : World) (hL : LP w p vp) (hQ : LP w q vq) (bk : Nat) (hx : Has w bk #[.int .i64 q.op, .string q.text, .int .i64 q.n, .complex .f64 q.x q.y, vq]) :
    Calls Try.prog 45 #[.agg #[.int .i64 p.op, .string p.text, .int .i64 p.n, .complex .f64 p.x p.y, vp], .pointer (some ⟨bk, 0, none⟩)] w fun e w' => e = .returned (.bool (Pr.same p q)) ∧ Below w.heap.size w w' := by
  have C := fun o => Lib.hid (same_any p q vp vq (w.alloc o) (hL.atAlloc o) (hQ.atAlloc o))
  have l1 := (Has.new w #[.int .i64 p.op, .string p.text, .int .i64 p.n, .complex .f64 p.x p.y, vp] 33).cell
  have l2 := (hx.alloc (.cells #[.int .i64 p.op, .string p.text, .int .i64 p.n, .complex .f64 p.x p.y, vp] 33)).cell
  obtain ⟨oq, cq, rfl⟩ := lies_val hL
  obtain ⟨oq', cq', rfl⟩ := lies_val hQ
  generalize Pr.same p q = s at *
  have z1 := hx.lt
  clear hL hQ hx
  go_enter Try.func45, Try.ntmps45
  go_wp2_with (go_at_call 18; refine (C _).out.mono ?_; rintro e w' ⟨rfl, hb⟩)
  go_ret
  exact ⟨rfl, below_new hb⟩

set_option maxHeartbeats 2000000 in
theorem index2_calls (q : Pr) (vq : Value) (l : List Pr) (oa : Option Addr) (cap : Nat) (w : World) (hL : LK w l (.slice oa l.length cap)) (bk : Nat) (hx : Has w bk #[.int .i64 q.op, .string q.text, .int .i64 q.n, .complex .f64 q.x q.y, vq]) (hq : LP w q vq) :
    Calls Try.prog 42 #[.slice oa l.length cap, .func (Fn.func 45) #[] #[.pointer (some ⟨bk, 0, none⟩)]] w fun e w' =>
      ∃ n : Int, e = .returned (.int .i64 n) ∧ decide (0 ≤ n) = (Pr.twice l q) ∧ Below w.heap.size w w' := by
  obtain ⟨_, _, ba, o, V, e1, _, hl, hc, hn, hcell, hrec⟩ := lies_slice hL
  cases e1
  simp only [Pr.kids_node] at *
  unfold maxLen at hc
  have HC := Lib.hid hcell
  have HR := Lib.hid hrec
  have HN := Lib.hid hn
  have HX := Lib.hid hx
  have HQ := Lib.hid hq
  clear hL hcell hrec hn hx hq
  generalize hla : l.length = la at *
  have HLA := Lib.hid hla
  clear hla
  go_enter Try.func42, Try.ntmps42
  go_wp2_with fail
  go_loopw [8] (fun j wr => IxRel (fun k => Pr.same k q) l la w j wr) (fun j _ => la - (intOf j).toNat)
  case atStart => exact ⟨0, Nat.zero_le _, rfl, by simp [Hid], Below.refl _ _⟩
  case round =>
    obtain ⟨k, hk, rfl, HS, hb⟩ := hrel
    by_cases hlt : k < la
    · obtain ⟨p, hp⟩ : ∃ p, l[k]? = some p := ⟨_, List.getElem?_eq_getElem (by rw [HLA.out]; exact hlt)⟩
      obtain ⟨rfl, hB⟩ := HN.out (by omega)
      obtain ⟨oq, cq, hV⟩ := lies_val (HR.out k p hp)
      obtain ⟨c0, c1, c2, c3, c4⟩ := pc_cells (w := wr) (fun j u hu => (hb.cell (p := ⟨ba, o + k * 5 + j, none⟩) hB).trans (HC.out k p hp j u hu))
      have L0 := (HR.out k p hp).later hb (Nat.le_refl _)
      rw [hV] at c4 L0
      have CC := add1_calls p q (.slice oq p.kids.length cq) vq wr L0 (HQ.out.later hb (Nat.le_refl _)) bk (HX.out.below hb HX.out.lt)
      have HB := Lib.hid hb
      have HS0 := HS.out
      cases hs : (Pr.same p q)
      · have HF := Lib.hid (any_step (P := fun k => Pr.same k q) hp HS0 hs)
        rw [hs] at CC
        have CC := Lib.hid CC
        clear hb hV L0 HS0 hs hp
        go_wp2_with (go_at_call 45; refine CC.out.mono ?_; rintro e w' ⟨rfl, hb'⟩)
        go_roundw
        case rel => exact ⟨k + 1, by omega, by go_num, HF.out, HB.out.trans (hb'.mono HB.out.size)⟩
        case measure => simp [intOf]; omega
      · have HF := Lib.hid (any_hit (P := fun k => Pr.same k q) hp hs)
        rw [hs] at CC
        have CC := Lib.hid CC
        clear hb hV L0 HS0 hs hp
        go_wp2_with (go_at_call 45; refine CC.out.mono ?_; rintro e w' ⟨rfl, hb'⟩)
        go_ret
        exact ⟨_, rfl, by unfold Pr.twice; rw [HF.out]; simp, HB.out.trans (hb'.mono HB.out.size)⟩
    · have HB := Lib.hid hb
      clear hb
      have e : k = la := by omega
      have h7 := HS.out
      rw [Pr.take_all l (by rw [HLA.out]; omega)] at h7
      have H7 := Lib.hid h7
      clear h7 e
      go_wp2_with fail
      go_ret
      exact ⟨_, rfl, by unfold Pr.twice; rw [H7.out]; simp, HB.out⟩

set_option maxHeartbeats 1000000 in
theorem contains2_calls (q : Pr) (vq : Value) (l : List Pr) (oa : Option Addr) (cap : Nat) (w : World) (hL : LK w l (.slice oa l.length cap)) (bk : Nat) (hx : Has w bk #[.int .i64 q.op, .string q.text, .int .i64 q.n, .complex .f64 q.x q.y, vq]) (hq : LP w q vq) :
    Calls Try.prog 34 #[.slice oa l.length cap, .func (Fn.func 45) #[] #[.pointer (some ⟨bk, 0, none⟩)]] w fun e w' =>
      e = .returned (.bool (Pr.twice l q)) ∧ Below w.heap.size w w' := by
  have C := Lib.hid (index2_calls q vq l oa cap w hL bk hx hq)
  clear hL hx hq
  go_enter Try.func34, Try.ntmps34
  go_wp2_with (go_at_call 42; refine C.out.mono ?_; rintro e w' ⟨n, rfl, hn, hb⟩)
  go_ret
  exact ⟨ret_bool (by rw [← hn]), hb⟩


end Go.Proofs.Ytgfepbcolcmdgaa
