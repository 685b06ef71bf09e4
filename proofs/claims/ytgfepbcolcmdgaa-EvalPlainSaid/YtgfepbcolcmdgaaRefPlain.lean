/- Filters made plain: the document's answer, walked. -/
import Derived.Test.YtgfepbcolcmdgaaPlainM
import Derived.Test.YtgfepbcolcmdgaaSet5
import Derived.Test.YtgfepbcolcmdgaaRefSame
import Derived.Test.YtgfepbcolcmdgaaConv
import Derived.Deep.RegionLaw
import Derived.Deep.DrawnRows
namespace Go.Proofs.Ytgfepbcolcmdgaa
open Go.RowKit

def PlainOut (q : Pr) (w : World) (e : Ending) (w' : World) : Prop :=
  ∃ v', e = .returned (.agg #[.int .i64 q.op, .string q.text, .int .i64 q.n, .complex .f64 q.x q.y, v']) ∧ Lies 5 pc (fun b => w.heap.size ≤ b ∧ b < w'.heap.size) w' q v' ∧ Below w.heap.size w w'

theorem plainOut_of {p q : Pr} (h : p = q) {w : World} {e : Ending} {w' : World} (H : PlainOut q w e w') : PlainOut p w e w' := by rw [h]; exact H

theorem news1 {w : World} {q : Pr} {v : Value} {t : TypeId} : ∀ j u, (newsOf (fun _ => v) 0 [q])[j]? = some u → (w.alloc (.cells #[.int .i64 q.op, .string q.text, .int .i64 q.n, .complex .f64 q.x q.y, v] t)).cell? ((⟨w.heap.size, 0, none⟩ : Addr).add j) = some u :=
  World.news_of_block (cs := #[.int .i64 q.op, .string q.text, .int .i64 q.n, .complex .f64 q.x q.y, v]) (t := t) (fr := (0, 0)) (heap_alloc_new w _)
theorem news1_one {q : Pr} {v : Value} (h : v.oneCell' = true) : ∀ u ∈ newsOf (fun _ => v) 0 [q], u.oneCell' = true := news_mem fun _ _ _ => h
theorem plains_take {l : List Pr} {k : Nat} {p : Pr} (hp : l[k]? = some p) : Pr.plains (l.take (k + 1)) = Pr.plains (l.take k) ++ [p.plain] := by
  rw [Pr.plains_map, Pr.plains_map, Pr.take_one hp]; simp

/-- What stands in memory: the argument, the result, the new one's own (v: its Kids); the rows. -/
structure PSt (w : World) (bx zz ot : Array Value) (R : Nat → Rw) (wr : World) : Prop where
  o1 : Own wr w.heap.size bx 33
  o2 : Own wr (w.heap.size + 1) zz 33
  o3 : Own wr (w.heap.size + 1 + 1) ot 33
  st : Stock wr (w.heap.size + 3) R
  bel : Below w.heap.size w wr
theorem PSt.later {w wr w' : World} {bx zz ot : Array Value} {R : Nat → Rw} (h : PSt w bx zz ot R wr) (hb : Below wr.heap.size wr w') : PSt w bx zz ot R w' :=
  ⟨h.o1.later hb, h.o2.later hb, h.o3.later hb, h.st.later hb, h.bel.trans (hb.mono h.bel.size)⟩
theorem PSt.alloc {w wr : World} {bx zz ot : Array Value} {R : Nat → Rw} (h : PSt w bx zz ot R wr) (o : Obj) : PSt w bx zz ot R (wr.alloc o) := h.later ((Below.refl _ _).alloc (Nat.le_refl _) _)
theorem PSt.drew {w wr : World} {bx zz ot : Array Value} {R : Nat → Rw} (h : PSt w bx zz ot R wr) : PSt w bx zz ot R wr.drew := h.later (Below.refl _ _).drew
theorem PSt.base {w wr : World} {bx zz ot : Array Value} {R : Nat → Rw} (h : PSt w bx zz ot R wr) : w.heap.size + 3 ≤ wr.heap.size := by have := h.o3.lt; omega
theorem PSt.set4 {w wr : World} {bx zz : Array Value} {a b c d e : Value} {R : Nat → Rw} (h : PSt w bx zz #[a, b, c, d, e] R wr) (u : Value) : PSt w bx zz #[a, b, c, d, u] R (wr.setCell ⟨w.heap.size + 1 + 1, 4, none⟩ u) :=
  ⟨h.o1.setFar _ _ (by show w.heap.size ≠ w.heap.size + 1 + 1; omega), h.o2.setFar _ _ (by show w.heap.size + 1 ≠ w.heap.size + 1 + 1; omega), h.o3.set 4 u, h.st.setLow _ _ (by show w.heap.size + 1 + 1 < w.heap.size + 3; omega), h.bel.setCell (by show w.heap.size ≤ w.heap.size + 1 + 1; omega) _⟩
/-- Behind an append to row i, in the world behind the new block. -/
theorem PSt.push {w wr w' : World} {bx zz ot : Array Value} {R : Nat → Rw} (h : PSt w bx zz ot R wr) (i : Nat) (m : List Pr) (W : Nat → Value) (hm : ∀ j p, m[j]? = some p → Lies 5 pc (Sof wr (w.heap.size + 3) R) wr p (W j)) {g cap n : Nat} (hn : n = (R i).l.length + m.length)
    (hown : w'.ownsRow (w.heap.size + 3) 33 5 (.slice (some ⟨g, 0, none⟩) n cap) n (newsOf (R i).V 0 (R i).l ++ newsOf W 0 m)) (hgrow : wr.grownBy w' (R i).v.ownBlock) (hat : (R i).v.ownBlock = some g ∨ g = wr.heap.size) :
    PSt w bx zz ot (upd R i ⟨(R i).l ++ m, .slice (some ⟨g, 0, none⟩) n cap, glueV (R i).l.length (R i).V W⟩) w' :=
  ⟨h.o1.grown hgrow (own_ne (h.st.row i).1 (by omega)), h.o2.grown hgrow (own_ne (h.st.row i).1 (by omega)), h.o3.grown hgrow (own_ne (h.st.row i).1 (by omega)), h.st.push i m W hm hn hown hgrow hat,
    h.bel.grown hgrow h.bel.size fun k hk => by have := ((h.st.row i).1.lt k hk).1; omega⟩

theorem lies_al {B : Nat} {X : World} {q : Pr} {v : Value} (o : Obj) (h : Lies 5 pc (fun b => B ≤ b ∧ b < X.heap.size) X q v) : Lies 5 pc (fun b => B ≤ b ∧ b < (X.alloc o).heap.size) (X.alloc o) q v :=
  h.mono (fun b o hS => World.cell?_of_block (Below.heap_alloc _ _ _ hS.2)) (fun b hS => ⟨hS.1, by simp; have := hS.2; omega⟩)

def PRel1 (l : List Pr) (len : Nat) (w : World) (bx zz ot : Array Value) (kv i : Value) (wr : World) : Prop :=
  ∃ (k : Nat) (R : Nat → Rw), k ≤ len ∧ i = .int .i64 k ∧ kv = (R 0).v ∧ Hid ((R 0).l = Pr.plains (l.take k)) ∧ Hid (∀ j, j ≠ 0 → R j = Rw.nil) ∧ Hid (PSt w bx zz ot R wr)

theorem flat_take {op : Int} {l : List Pr} {k : Nat} {a : Pr} (h : l[k]? = some a) : Pr.flat op (l.take (k + 1)) = Pr.flat op (l.take k) ++ (if a.op = op then a.kids else [a]) := by
  rw [Pr.take_one h, Pr.flat_append]; simp [Pr.flat]
theorem lies_news {w : World} {b o : Nat} {l : List Pr} {V : Nat → Value} (h : ∀ i p, l[i]? = some p → ∀ j u, (pc p (V i))[j]? = some u → w.cell? ⟨b, o + i * 5 + j, none⟩ = some u) :
    ∀ j u, (newsOf V 0 l)[j]? = some u → w.cell? ((⟨b, o, none⟩ : Addr).add j) = some u := by
  intro j u hu
  have hadd : (⟨b, o, none⟩ : Addr).add j = ⟨b, o + j, none⟩ := by unfold Addr.add; split <;> simp_all
  rw [hadd]
  have hj := (List.getElem?_eq_some_iff.1 hu).1
  rw [news_len] at hj
  have hi : j / 5 < l.length := by omega
  have hp : l[j / 5]? = some l[j / 5] := List.getElem?_eq_getElem hi
  have e : j = j / 5 * 5 + j % 5 := by omega
  rw [e, news_get _ _ _ _ _ hp _ (by omega), Nat.zero_add] at hu
  have := h _ _ hp _ _ hu
  rw [show o + j / 5 * 5 + j % 5 = o + j by omega] at this
  exact this

def PRel2 (ks : List Pr) (op : Int) (nk : Nat) (w : World) (bx zz ot : Array Value) (R0 : Rw) (fv i : Value) (wr : World) : Prop :=
  ∃ (k : Nat) (R : Nat → Rw), k ≤ nk ∧ i = .int .i64 k ∧ fv = (R 1).v ∧ Hid (R 0 = R0) ∧ Hid ((R 1).l = Pr.flat op (ks.take k)) ∧ Hid (∀ j, j ≠ 0 → j ≠ 1 → R j = Rw.nil) ∧ Hid (PSt w bx zz ot R wr)

def PRel3 (fl : List Pr) (no : Int) (nf : Nat) (w : World) (bx zz : Array Value) (c0 c1 c2 c3 : Value) (R0 R1 : Rw) (i : Value) (wr : World) : Prop :=
  ∃ (k : Nat) (R : Nat → Rw), k ≤ nf ∧ i = .int .i64 k ∧ Hid (R 0 = R0) ∧ Hid (R 1 = R1) ∧ Hid ((R 2).l = Pr.keep no (fl.take k)) ∧ Hid (Pr.hasOp (3 - no) (fl.take k) = false) ∧ Hid (PSt w bx zz #[c0, c1, c2, c3, (R 2).v] R wr)
def TwRel (fl : List Pr) (f : Pr) (k : Nat) (w0 : World) (t j : Value) (wr : World) : Prop :=
  ∃ (i : Nat) (a : Bool), i ≤ k ∧ j = .int .i64 i ∧ t = .bool a ∧ Hid (a = Pr.twice (fl.take i) f) ∧ Below w0.heap.size w0 wr
theorem twice_take {l : List Pr} {k : Nat} {q f : Pr} (h : l[k]? = some q) : Pr.twice (l.take (k + 1)) f = (Pr.twice (l.take k) f || Pr.same q f) := by
  rw [Pr.take_one h]; unfold Pr.twice; rw [List.any_append]; simp

theorem keep_take {no : Int} {l : List Pr} {k : Nat} {f : Pr} (h : l[k]? = some f) : Pr.keep no (l.take (k + 1)) = Pr.keep no (l.take k) ++ (if Pr.twice (l.take k) f = true ∨ f.op = no then [] else [f]) := by
  rw [Pr.take_one h, Pr.keep_snoc]
theorem hasOp_take {o : Int} {l : List Pr} {k : Nat} {f : Pr} (h : l[k]? = some f) : Pr.hasOp o (l.take (k + 1)) = (Pr.hasOp o (l.take k) || decide (f.op = o)) := by
  rw [Pr.take_one h]; unfold Pr.hasOp; rw [List.any_append]; simp
theorem hasOp_at {o : Int} {l : List Pr} {k : Nat} {f : Pr} (h : l[k]? = some f) (ho : f.op = o) : Pr.hasOp o l = true := by
  unfold Pr.hasOp; rw [List.any_eq_true]
  exact ⟨f, List.mem_of_getElem? h, by simp [ho]⟩

attribute [local go_sem ↓] Go.wp_at_zero Go.wp_at_succ
set_option maxRecDepth 100000 in
set_option maxHeartbeats 8000000 in
theorem refPlain_calls (p : Pr) : ∀ (v : Value) (w : World), LP w p v → p.size ≤ 60 → p.all = true →
    Calls Try.prog 14 #[.agg #[.int .i64 p.op, .string p.text, .int .i64 p.n, .complex .f64 p.x p.y, v]] w (PlainOut p.plain w) := by
  induction p using Pr.ind with
  | h op t n x y kids ih =>
    intro v w hL hsz hall
    obtain ⟨oa, cap, b, o, V, rfl, ht, hl, hc, hn, hcell, hrec⟩ := lies_slice hL
    simp only [Pr.kids_node, Pr.text_node, Pr.op_node, Pr.n_node, Pr.x_node, Pr.y_node, Pr.size, Pr.all, Bool.and_eq_true] at *
    unfold maxLen at hc
    have h60 := Pr.len_le_sizes kids
    have HC := Lib.hid hcell
    have HR := Lib.hid hrec
    have HN := Lib.hid hn
    have HI := Lib.hid ih
    have HA := Lib.hid hall
    clear hL hcell hrec hn ih hall
    generalize hlen : kids.length = len at *
    have HLEN := Lib.hid hlen
    clear hlen
    obtain ⟨i0, hi, hz0, hz1, hz2⟩ := info_parts info_pred
    go_enter Try.func14, Try.ntmps14
    go_wp2_with fail
    go_loopw [4, 5] (fun kv i wr => PRel1 kids len w #[.int .i64 op, .string t, .int .i64 n, .complex .f64 x y, .slice oa len cap] #[.int .i64 0, .string ⟨#[]⟩, .int .i64 0, .complex .f64 0 0, .slice none 0 0] #[.int .i64 op, .string t, .int .i64 n, .complex .f64 x y, .slice none 0 0] kv i wr) (fun _ i _ => len - (intOf i).toNat)
    case atStart =>
      exact ⟨0, fun _ => Rw.nil, Nat.zero_le _, rfl, rfl, by simp [Hid, Rw.nil, Pr.plains], fun _ _ => rfl, ⟨((Own.new w _ _).alloc _).alloc _, (Own.newAt _ _ _ (by simp)).alloc _, Own.newAt _ _ _ (by simp), Stock.empty _ _, (((Below.refl _ _).alloc (Nat.le_refl _) _).alloc (by simp) _).alloc (by simp; omega) _⟩⟩
    case round =>
      obtain ⟨k, R, hk, rfl, rfl, HL0, HNil, HP⟩ := hrel
      by_cases hlt : k < len
      · obtain ⟨q, hq⟩ : ∃ q, kids[k]? = some q := ⟨_, List.getElem?_eq_getElem (by rw [HLEN.out]; exact hlt)⟩
        obtain ⟨rfl, hS⟩ := HN.out (by omega)
        obtain ⟨oq, cq, hV⟩ := lies_val (HR.out k q hq)
        obtain ⟨c0, c1, c2, c3, c4⟩ := pc_cells (w := wr) (fun j u hu => (HP.out.bel.cell (p := ⟨b, o + k * 5 + j, none⟩) hS).trans (HC.out k q hq j u hu))
        have hqs := Pr.size_mem (List.mem_of_getElem? hq)
        have L0 := (HR.out k q hq).later HP.out.bel (Nat.le_refl _)
        rw [hV] at c4 L0
        have CC := Lib.hid (HI.out q (List.mem_of_getElem? hq) (.slice oq q.kids.length cq) wr L0 (by omega) (Pr.all_mem (List.mem_of_getElem? hq) HA.out.2))
        have hk0 : (R 0).l.length = k := by rw [HL0.out, Pr.plains_map]; simp; have := HLEN.out; omega
        have HQ := Lib.hid hq
        have l1 := HP.out.o1.cell
        have hk60 : (R 0).l.length ≤ 60 := by omega
        have HK0 := Lib.hid hk0
        clear hq hV L0 hk0
        go_wp2_with (first
          | (go_at_call 14; refine CC.out.mono ?_; rintro e w2 ⟨vq, rfl, hlq, hb2⟩; have HW2 := HP.out.later hb2)
          | (at_builtin; refine wpList_append_lies _ (by rfl) _ _ _ (by rfl) (w.heap.size + 3) 33 i0 _ 5 72 Try.underlying31 hi hz0 hz1 hz2 rfl (by omega) (R 0).v (R 0).l.length (newsOf (R 0).V 0 (R 0).l) (by rfl) ((HW2.alloc _).st.row 0).1 ⟨w2.heap.size, 0, none⟩ 1 1 (newsOf (fun _ => vq) 0 [q.plain]) (by rfl) (by rfl) news1 (news1_one (lies_one hlq)) (by omega) (by unfold maxLen; omega) (by omega) (by have := HW2.base; simp; omega) (w2.heap.size + 1) (by simp) ?_; intro g cap' w3 hown3 hgrow hat hlt3))
        have R1 := Lib.hid ((HW2.alloc (.cells #[.int .i64 q.plain.op, .string q.plain.text, .int .i64 q.plain.n, .complex .f64 q.plain.x q.plain.y, vq] 33)).push 0 [q.plain] (fun _ => vq) (fun j p hp => by
          match j, hp with
          | 0, hp => simp at hp; subst hp; exact (fresh_apart HP.out.st HP.out.base hlq).mono (fun b o hS => World.cell?_of_block (Below.heap_alloc _ _ _ hS.2.1)) (fun b hS => ⟨hS.1, by simp; have := hS.2.1; omega, hS.2.2⟩)) rfl hown3 hgrow (by simpa using hat))
        clear hown3 hgrow hat hlq hb2 HW2
        go_roundw
        case rel => exact ⟨k + 1, _, by omega, by go_num, by simp [upd], by unfold Hid; rw [upd_same, plains_take HQ.out, ← HL0.out], (fun j hj => by rw [upd_far _ _ hj]; exact HNil.out j hj), R1.out⟩
        case measure => simp [intOf]; omega
      · have e : k = len := by omega
        subst e
        have hl0 := HL0.out
        rw [Pr.take_all kids (by rw [HLEN.out]; omega)] at hl0
        have HL1 := Lib.hid hl0
        clear hl0 HL0
        have hlen0 : (R 0).l.length = k := by rw [HL1.out, Pr.plains_map]; simp; exact HLEN.out
        have HLEN0 := Lib.hid hlen0
        clear hlen0
        have hes := HP.out.st.slice 0
        rw [HLEN0.out] at hes
        obtain ⟨ok, ck, gk, ev, hk1, hk2, hk3⟩ := hes
        unfold maxLen at hk2
        have HK3 := Lib.hid hk3
        generalize hv0 : (R 0).v = v0 at *
        have EV := Lib.hid hv0
        clear hv0
        subst ev
        clear hk3
        have l1 := HP.out.o1.cell
        have l2 := HP.out.o2.cell
        have f2 := HP.out.o2.free
        have l3 := HP.out.o3.cell
        have f3 := HP.out.o3.free
        have z1 := HP.out.o1.lt
        have z2 := HP.out.o2.lt
        have z3 := HP.out.o3.lt
        have hpl : Pr.plain (.node op t n x y kids) = Pr.finish op t n x y (Pr.plains kids) := by simp only [Pr.plain]
        have HPL := Lib.hid hpl
        clear hpl
        by_cases e10 : op = 10
        · subst e10
          obtain rfl : k = 1 := Pr.part10 HA.out.1
          obtain ⟨a0, hk0⟩ : ∃ a, kids = [a] := by
            have := HLEN.out
            match kids, this with
            | [a], _ => exact ⟨a, rfl⟩
          subst hk0
          have hg := Pr.plain_good a0 (Pr.all_mem (l := [a0]) (by simp) HA.out.2)
          have hl1 : (R 0).l = [a0.plain] := by rw [HL1.out]; simp only [Pr.plains]
          have hf : Pr.finish 10 t n x y (Pr.plains [a0]) = Pr.turn t n x y [a0.plain] := by simp [Pr.finish, Pr.plains]
          have HF := Lib.hid (HPL.out.trans hf)
          clear hf HPL
          generalize a0.plain = a at *
          obtain ⟨rfl, hgk⟩ := HK3.out (by omega)
          obtain ⟨⟨c0, c1, c2, c3, c4⟩, La⟩ := HP.out.st.at 0 EV.out (k := 0) (p := a) (by rw [hl1]; rfl)
          obtain ⟨oq, cq, hV⟩ := lies_val La
          rw [hV] at c4 La
          simp only [Nat.zero_mul, Nat.zero_add] at c0 c1 c2 c3 c4
          have zk := hgk.2
          have HG := Lib.hid hg
          have LA := Lib.hid La
          have HL9 := Lib.hid hl1
          clear hg La hV hl1
          have PX := fun ob => Lib.hid (HP.out.alloc ob)
          by_cases h1 : a.op = 1
          · have E : Pr.turn t n x y [a] = Pr.leaf 2 := by simp [Pr.turn, h1]
            have EQ := Lib.hid (HF.out.trans E)
            clear E
            go_wp2_with fail
            have key := And.intro (st5_own HP.out.o2 (.int .i64 2) (.string ⟨#[]⟩) (.int .i64 0) (.complex .f64 0 0) (.slice none 0 0)) (And.intro (st5_below (b := w.heap.size + 1) HP.out.bel (by omega) (.int .i64 2) (.string ⟨#[]⟩) (.int .i64 0) (.complex .f64 0 0) (.slice none 0 0)) (Lib.hid (st5_lies (w := w) (c0 := .int .i64 2) (c1 := .string ⟨#[]⟩) (c2 := .int .i64 0) (c3 := .complex .f64 0 0) (c4 := .slice none 0 0) (show Lies 5 pc (fun b => w.heap.size + 3 ≤ b ∧ b < wr.heap.size) wr (Pr.leaf 2) (.slice none 0 0) from lies_nil (by decide)))))
            clear l1 l2 f2 l3 f3 z1 z2 z3
            replace key := And.intro (key.1.alloc (.cells #[.int .i64 1, .string a.text, .int .i64 a.n, .complex .f64 a.x a.y, .slice oq a.kids.length cq] 33)) (And.intro (key.2.1.alloc key.2.1.size (.cells #[.int .i64 1, .string a.text, .int .i64 a.n, .complex .f64 a.x a.y, .slice oq a.kids.length cq] 33)) (Lib.hid (lies_al (.cells #[.int .i64 1, .string a.text, .int .i64 a.n, .complex .f64 a.x a.y, .slice oq a.kids.length cq] 33) key.2.2.out)))
            unfold st5 at key
            revert key
            generalize World.alloc (World.setCell (World.setCell (World.setCell (World.setCell (World.setCell _ _ _) _ _) _ _) _ _) _ _) _ = WW
            rintro ⟨of, bf, HE⟩
            have lf := of.cell
            refine bodyPost_ret (v := .agg #[.int .i64 2, .string ⟨#[]⟩, .int .i64 0, .complex .f64 0 0, .slice none 0 0]) (by simp [results, Try.results14, go_sem, lf]) rfl (plainOut_of EQ.out ⟨(.slice none 0 0), rfl, HE.out, bf⟩)
          by_cases h2 : a.op = 2
          · have E : Pr.turn t n x y [a] = Pr.leaf 1 := by simp [Pr.turn, h2]
            have EQ := Lib.hid (HF.out.trans E)
            clear E
            go_wp2_with fail
            have key := And.intro (st5_own HP.out.o2 (.int .i64 1) (.string ⟨#[]⟩) (.int .i64 0) (.complex .f64 0 0) (.slice none 0 0)) (And.intro (st5_below (b := w.heap.size + 1) HP.out.bel (by omega) (.int .i64 1) (.string ⟨#[]⟩) (.int .i64 0) (.complex .f64 0 0) (.slice none 0 0)) (Lib.hid (st5_lies (w := w) (c0 := .int .i64 1) (c1 := .string ⟨#[]⟩) (c2 := .int .i64 0) (c3 := .complex .f64 0 0) (c4 := .slice none 0 0) (show Lies 5 pc (fun b => w.heap.size + 3 ≤ b ∧ b < wr.heap.size) wr (Pr.leaf 1) (.slice none 0 0) from lies_nil (by decide)))))
            clear l1 l2 f2 l3 f3 z1 z2 z3
            replace key := And.intro (key.1.alloc (.cells #[.int .i64 2, .string a.text, .int .i64 a.n, .complex .f64 a.x a.y, .slice oq a.kids.length cq] 33)) (And.intro (key.2.1.alloc key.2.1.size (.cells #[.int .i64 2, .string a.text, .int .i64 a.n, .complex .f64 a.x a.y, .slice oq a.kids.length cq] 33)) (Lib.hid (lies_al (.cells #[.int .i64 2, .string a.text, .int .i64 a.n, .complex .f64 a.x a.y, .slice oq a.kids.length cq] 33) key.2.2.out)))
            unfold st5 at key
            revert key
            generalize World.alloc (World.setCell (World.setCell (World.setCell (World.setCell (World.setCell _ _ _) _ _) _ _) _ _) _ _) _ = WW
            rintro ⟨of, bf, HE⟩
            have lf := of.cell
            refine bodyPost_ret (v := .agg #[.int .i64 1, .string ⟨#[]⟩, .int .i64 0, .complex .f64 0 0, .slice none 0 0]) (by simp [results, Try.results14, go_sem, lf]) rfl (plainOut_of EQ.out ⟨(.slice none 0 0), rfl, HE.out, bf⟩)
          have g1 : (a.op == 1) = false := by rw [beq_eq_false_iff_ne]; exact h1
          have g2 : (a.op == 2) = false := by rw [beq_eq_false_iff_ne]; exact h2
          by_cases h10 : a.op = 10
          · obtain ⟨d, hd, _⟩ := HG.out.1.not h10
            have E : Pr.turn t n x y [a] = d := by simp [Pr.turn, h1, h2, h10, hd]
            have EQ := Lib.hid (HF.out.trans E)
            clear E
            obtain ⟨oa2, cap2, b2, o2, V2, ev2, _, hl2, hc2, hn2, hcell2, hrec2⟩ := lies_slice LA.out
            cases ev2
            have hk1 : 0 < a.kids.length := by rw [hd]; simp
            obtain ⟨rfl, hS2⟩ := hn2 hk1
            obtain ⟨d0, d1, d2, d3, d4⟩ := pc_cells (w := wr) (fun j u hu => hcell2 0 d (by rw [hd]; rfl) j u hu)
            have Ld := hrec2 0 d (by rw [hd]; rfl)
            obtain ⟨od, cd, hV2⟩ := lies_val Ld
            rw [hV2] at d4 Ld
            simp only [Nat.zero_mul, Nat.zero_add, Nat.add_zero] at d0 d1 d2 d3 d4
            have zd := hS2.2.1
            have LD := Lib.hid (Ld.mono (S' := fun b => w.heap.size + 3 ≤ b ∧ b < wr.heap.size) (fun _ _ _ => rfl) (fun b hS => ⟨hS.1, hS.2.1⟩))
            clear hcell2 hrec2 hn2 Ld hS2 hd
            go_wp2_with fail
            have key := And.intro (st5_own HP.out.o2 (.int .i64 d.op) (.string d.text) (.int .i64 d.n) (.complex .f64 d.x d.y) ((.slice od d.kids.length cd))) (And.intro (st5_below (b := w.heap.size + 1) HP.out.bel (by omega) (.int .i64 d.op) (.string d.text) (.int .i64 d.n) (.complex .f64 d.x d.y) ((.slice od d.kids.length cd))) (Lib.hid (st5_lies (w := w) (c0 := .int .i64 d.op) (c1 := .string d.text) (c2 := .int .i64 d.n) (c3 := .complex .f64 d.x d.y) (c4 := (.slice od d.kids.length cd)) (show Lies 5 pc (fun b => w.heap.size + 3 ≤ b ∧ b < wr.heap.size) wr d (.slice od d.kids.length cd) from LD.out))))
            clear l1 l2 f2 l3 f3 z1 z2 z3
            replace key := And.intro (key.1.alloc (.cells #[.int .i64 10, .string a.text, .int .i64 a.n, .complex .f64 a.x a.y, .slice (some ⟨b2, o2, none⟩) a.kids.length cq] 33)) (And.intro (key.2.1.alloc key.2.1.size (.cells #[.int .i64 10, .string a.text, .int .i64 a.n, .complex .f64 a.x a.y, .slice (some ⟨b2, o2, none⟩) a.kids.length cq] 33)) (Lib.hid (lies_al (.cells #[.int .i64 10, .string a.text, .int .i64 a.n, .complex .f64 a.x a.y, .slice (some ⟨b2, o2, none⟩) a.kids.length cq] 33) key.2.2.out)))
            unfold st5 at key
            revert key
            generalize World.alloc (World.setCell (World.setCell (World.setCell (World.setCell (World.setCell _ _ _) _ _) _ _) _ _) _ _) _ = WW
            rintro ⟨of, bf, HE⟩
            have lf := of.cell
            refine bodyPost_ret (v := .agg #[.int .i64 d.op, .string d.text, .int .i64 d.n, .complex .f64 d.x d.y, (.slice od d.kids.length cd)]) (by simp [results, Try.results14, go_sem, lf]) rfl (plainOut_of EQ.out ⟨(.slice od d.kids.length cd), rfl, HE.out, bf⟩)
          have g10 : (a.op == 10) = false := by rw [beq_eq_false_iff_ne]; exact h10
          have E : Pr.turn t n x y [a] = .node 10 t n x y [a] := by simp [Pr.turn, h1, h2, h10]
          have EQ := Lib.hid (HF.out.trans E)
          clear E
          have PX := Lib.hid (HP.out.set4 (.slice (some ⟨gk, 0, none⟩) 1 ck))
          go_wp2_with fail
          have key := And.intro (st5_own PX.out.o2 (.int .i64 10) (.string t) (.int .i64 n) (.complex .f64 x y) (.slice (some ⟨gk, 0, none⟩) 1 ck)) (And.intro (st5_below (b := w.heap.size + 1) PX.out.bel (by omega) (.int .i64 10) (.string t) (.int .i64 n) (.complex .f64 x y) (.slice (some ⟨gk, 0, none⟩) 1 ck)) (Lib.hid (st5_lies (w := w) (c0 := .int .i64 10) (c1 := .string t) (c2 := .int .i64 n) (c3 := .complex .f64 x y) (c4 := .slice (some ⟨gk, 0, none⟩) 1 ck) (show Lies 5 pc (fun b => w.heap.size + 3 ≤ b ∧ b < (wr.setCell ⟨w.heap.size + 1 + 1, 4, none⟩ (.slice (some ⟨gk, 0, none⟩) 1 ck)).heap.size) (wr.setCell ⟨w.heap.size + 1 + 1, 4, none⟩ (.slice (some ⟨gk, 0, none⟩) 1 ck)) (.node 10 t n x y [a]) (.slice (some ⟨gk, 0, none⟩) 1 ck) from (by have := PX.out.st.lies 0 (Nat.le_refl _) 10 t n x y ht; rw [HL9.out, EV.out] at this; exact this)))))
          clear l1 l2 f2 l3 f3 z1 z2 z3
          replace key := And.intro (key.1.alloc (.cells #[.int .i64 a.op, .string a.text, .int .i64 a.n, .complex .f64 a.x a.y, .slice oq a.kids.length cq] 33)) (And.intro (key.2.1.alloc key.2.1.size (.cells #[.int .i64 a.op, .string a.text, .int .i64 a.n, .complex .f64 a.x a.y, .slice oq a.kids.length cq] 33)) (Lib.hid (lies_al (.cells #[.int .i64 a.op, .string a.text, .int .i64 a.n, .complex .f64 a.x a.y, .slice oq a.kids.length cq] 33) key.2.2.out)))
          unfold st5 at key
          revert key
          generalize World.alloc (World.setCell (World.setCell (World.setCell (World.setCell (World.setCell _ _ _) _ _) _ _) _ _) _ _) _ = WW
          rintro ⟨of, bf, HE⟩
          have lf := of.cell
          refine bodyPost_ret (v := .agg #[.int .i64 10, .string t, .int .i64 n, .complex .f64 x y, .slice (some ⟨gk, 0, none⟩) 1 ck]) (by simp [results, Try.results14, go_sem, lf]) rfl (plainOut_of EQ.out ⟨(.slice (some ⟨gk, 0, none⟩) 1 ck), rfl, HE.out, bf⟩)
        by_cases e89 : op = 8 ∨ op = 9
        · rcases e89 with rfl | rfl
          · have hf : Pr.finish 8 t n x y (Pr.plains kids) = Pr.glue 8 t n x y (R 0).l := by rw [HL1.out]; simp [Pr.finish]
            have HF := Lib.hid (HPL.out.trans hf)
            have hgood : ∀ a ∈ (R 0).l, Pr.IsPl a ∧ a.all = true := by
              intro a ha
              rw [HL1.out, Pr.plains_map, List.mem_map] at ha
              obtain ⟨c, hc, rfl⟩ := ha
              have := Pr.plain_good c (Pr.all_mem hc HA.out.2)
              exact ⟨this.1, this.2.1⟩
            have hks : Pr.sizes (R 0).l ≤ 60 := by
              have h1 : ∀ l : List Pr, Pr.alls l = true → Pr.sizes (Pr.plains l) ≤ Pr.sizes l := by
                intro l
                induction l with
                | nil => intro _; simp [Pr.plains]
                | cons a l ihl =>
                  intro h
                  simp only [Pr.alls, Bool.and_eq_true] at h
                  have := (Pr.plain_good a h.1).2.2.1
                  have := ihl h.2
                  simp only [Pr.plains, Pr.sizes]; omega
              have := h1 kids HA.out.2
              rw [HL1.out]; omega
            have HKS := Lib.hid hks
            have HGood := Lib.hid hgood
            clear hf HPL hgood hks
            generalize hR0 : R 0 = R0 at *
            have HR0 := Lib.hid hR0
            clear hR0
            go_wp2_with fail
            clear l1 l2 f2 l3 f3 z1 z2 z3
            go_loopw [8, 9] (fun fv i wr => PRel2 R0.l 8 k w #[.int .i64 8, .string t, .int .i64 n, .complex .f64 x y, .slice oa k cap] #[.int .i64 0, .string ⟨#[]⟩, .int .i64 0, .complex .f64 0 0, .slice none 0 0] #[.int .i64 8, .string t, .int .i64 n, .complex .f64 x y, .slice none 0 0] R0 fv i wr) (fun _ i _ => k - (intOf i).toNat)
            case atStart => exact ⟨0, R, Nat.zero_le _, rfl, (by rw [HNil.out 1 (by omega)]; rfl), HR0.out, (by unfold Hid; rw [HNil.out 1 (by omega)]; simp [Pr.flat, Rw.nil]), (fun j h0 _ => HNil.out j h0), HP.out⟩
            case round =>
              clear HP HNil
              obtain ⟨k2, R2, hk2, rfl, rfl, HRz, HFl, HNil, HP⟩ := hrel
              by_cases hlt : k2 < k
              · obtain ⟨a, ha⟩ : ∃ a, R0.l[k2]? = some a := ⟨_, List.getElem?_eq_getElem (by rw [HLEN0.out]; exact hlt)⟩
                obtain ⟨rfl, hgk⟩ := HK3.out (by omega)
                obtain ⟨⟨c0, c1, c2, c3, c4⟩, La⟩ := HP.out.st.at 0 (k := k2) (p := a) (by rw [HRz.out]; exact EV.out) (by rw [HRz.out]; exact ha)
                rw [HRz.out] at c4 La
                obtain ⟨oq, cq, b2, o2, V2, hV, _, hl2, hc2, hn2, hcell2, hrec2⟩ := lies_slice La
                rw [hV] at c4
                have hgkw := World.block_lt_of_cell? _ _ c0
                have hsf := flat_take (op := 8) ha
                have hsz : ((R2 1).l.length ≤ 60 ∧ (R2 1).l.length + a.kids.length ≤ 60) ∧ (R2 1).l.length + 1 ≤ 60 := by
                  have e1 := Pr.flat_sizes 8 (R0.l.take (k2 + 1))
                  have e2 := Pr.sizes_take_le R0.l (k2 + 1)
                  have e3 := Pr.len_le_sizes (Pr.flat 8 (R0.l.take (k2 + 1)))
                  have e4 := HKS.out
                  have e5 := Pr.flat_sizes 8 (R0.l.take k2)
                  have e6 := Pr.sizes_take ha
                  have e7 := Pr.len_le_sizes (Pr.flat 8 (R0.l.take k2))
                  have e8 := Pr.size_kids a
                  have e9 := Pr.len_le_sizes a.kids
                  rw [HFl.out]
                  omega
                have r0 := fun dd os => cell_regrown c0 dd os
                have x0 := fun dd os o => HP.out.o1.has.regrown dd os o
                have hk20 : (0 : Int) ≤ (k2 : Int) := by omega
                have hk21 : (k2 : Int) < (k : Int) := by omega
                have HA9 := Lib.hid ha
                have HLa := Lib.hid La
                have HSF := Lib.hid hsf
                have HC2 := Lib.hid hcell2
                have HR2 := Lib.hid hrec2
                have HN2 := Lib.hid hn2
                have HG := Lib.hid (HGood.out a (List.mem_of_getElem? ha))
                have HSZ := Lib.hid hsz
                have HV := Lib.hid hV
                clear ha La hsf hcell2 hrec2 hn2 hsz hV
                by_cases ho : a.op = 8
                · have g1 : (a.op == 8) = true := by simp [ho]
                  have hm := (HG.out.1.many (by omega)).1
                  obtain ⟨rfl, hS2⟩ := HN2.out (by omega)
                  have hm60 : a.kids.length ≤ 60 := by have := HSZ.out; omega
                  have hm0 : 0 < a.kids.length := by omega
                  go_wp2_with fail
                  refine wp_region_quiet_below (by kernel_rfl) (by kernel_rfl) ?_
                  repeat (first | go_big_quiet_step (fail) | quiet_step (fail))
                  refine wpQuiet_nil ?_
                  intro w7 hw'
                  have hb' := Lib.hid (regrown_below hw')
                  clear hw' r0 x0
                  have HP7 := Lib.hid (HP.out.later hb'.out)
                  have hgb : ∀ o, w7.cell? ⟨gk, o, none⟩ = wr.cell? ⟨gk, o, none⟩ := fun o => hb'.out.cell (p := ⟨gk, o, none⟩) hgkw
                  go_wp2_with (at_builtin; refine wpList_append_lies _ (by rfl) _ _ _ (by rfl) (w.heap.size + 3) 33 i0 _ 5 72 Try.underlying31 hi hz0 hz1 hz2 rfl (by omega) (R2 1).v (R2 1).l.length (newsOf (R2 1).V 0 (R2 1).l) (by rfl) (HP7.out.st.row 1).1 ⟨b2, o2, none⟩ a.kids.length cq (newsOf V2 0 a.kids) (by rfl) (news_len _ _ _) (lies_news (fun i p hp j u hu => (hb'.out.cell (p := ⟨b2, o2 + i * 5 + j, none⟩) hS2.2.1).trans (HC2.out i p hp j u hu))) (news_mem fun i p hp => by rw [Nat.zero_add]; exact lies_one (HR2.out i p hp)) (by omega) (by have := HSZ.out; unfold maxLen; omega) (by have := HSZ.out; omega) (HP7.out.base) (w7.heap.size) (by simp) ?_; intro g cap' w3 hown3 hgrow hat hlt3)
                  have R1 := Lib.hid (HP7.out.push 1 a.kids V2 (fun j p hp => (HR2.out j p hp).mono (fun b o hS => hb'.out.cell (p := ⟨b, o, none⟩) hS.2.1) (fun b hS => ⟨hS.1, Nat.lt_of_lt_of_le hS.2.1 hb'.out.size, hS.2.2⟩)) rfl hown3 hgrow hat)
                  clear hown3 hgrow hat
                  go_roundw
                  case rel => exact ⟨k2 + 1, _, by omega, by go_num, by simp [upd], by unfold Hid; rw [upd_far _ _ (by omega)]; exact HRz.out, by unfold Hid; rw [upd_same, HSF.out, if_pos ho, ← HFl.out], (fun j h0 h1 => by rw [upd_far _ _ h1]; exact HNil.out j h0 h1), R1.out⟩
                  case measure => simp [intOf]; omega
                · have g1 : (a.op == 8) = false := by rw [beq_eq_false_iff_ne]; exact ho
                  have HP0 := Lib.hid HP.out
                  go_wp2_with fail
                  refine wp_region_quiet_below (by kernel_rfl) (by kernel_rfl) ?_
                  repeat (first | go_big_quiet_step (fail) | quiet_step (fail))
                  refine wpQuiet_nil ?_
                  intro w7 hw'
                  have hb' := Lib.hid (regrown_below hw')
                  clear hw' r0 x0
                  have HP7 := Lib.hid (HP.out.later hb'.out)
                  have hgb : ∀ o, w7.cell? ⟨gk, o, none⟩ = wr.cell? ⟨gk, o, none⟩ := fun o => hb'.out.cell (p := ⟨gk, o, none⟩) hgkw
                  go_wp2_with (at_builtin; refine wpList_append_lies _ (by rfl) _ _ _ (by rfl) (w.heap.size + 3) 33 i0 _ 5 72 Try.underlying31 hi hz0 hz1 hz2 rfl (by omega) (R2 1).v (R2 1).l.length (newsOf (R2 1).V 0 (R2 1).l) (by rfl) ((HP7.out.alloc _).st.row 1).1 ⟨w7.heap.size, 0, none⟩ 1 1 (newsOf (fun _ => Value.slice oq a.kids.length cq) 0 [a]) (by rfl) (by rfl) news1 (news1_one rfl) (by omega) (by have := HSZ.out; unfold maxLen; omega) (by have := HSZ.out; omega) (by have := HP7.out.base; simp; omega) (w7.heap.size + 1) (by simp) ?_; intro g cap' w3 hown3 hgrow hat hlt3)
                  have R1 := Lib.hid ((HP7.out.alloc (.cells #[.int .i64 a.op, .string a.text, .int .i64 a.n, .complex .f64 a.x a.y, .slice oq a.kids.length cq] 33)).push 1 [a] (fun _ => .slice oq a.kids.length cq) (fun j p hp => by
                    match j, hp with
                    | 0, hp =>
                      simp at hp; subst hp
                      have h9 := HLa.out
                      rw [HV.out] at h9
                      exact h9.mono (fun b o hS => (World.cell?_of_block (Below.heap_alloc _ _ _ (Nat.lt_of_lt_of_le hS.2.1 hb'.out.size))).trans (hb'.out.cell (p := ⟨b, o, none⟩) hS.2.1)) (fun b hS => ⟨hS.1, by have := hb'.out.size; have := hS.2.1; simp; omega, hS.2.2⟩)) rfl hown3 hgrow (by simpa using hat))
                  clear hown3 hgrow hat
                  go_roundw
                  case rel => exact ⟨k2 + 1, _, by omega, by go_num, by simp [upd], by unfold Hid; rw [upd_far _ _ (by omega)]; exact HRz.out, by unfold Hid; rw [upd_same, HSF.out, if_neg ho, ← HFl.out], (fun j h0 h1 => by rw [upd_far _ _ h1]; exact HNil.out j h0 h1), R1.out⟩
                  case measure => simp [intOf]; omega
              · have hfl : (R2 1).l = Pr.flat 8 R0.l := by
                  have := HFl.out
                  rw [Pr.take_all R0.l (by rw [HLEN0.out]; omega)] at this
                  exact this
                have HFL := Lib.hid hfl
                have hfs : (R2 1).l.length ≤ 60 := by
                  have e1 := Pr.flat_sizes 8 R0.l
                  have e3 := Pr.len_le_sizes (Pr.flat 8 R0.l)
                  have e4 := HKS.out
                  rw [hfl]; omega
                have h2n := HNil.out 2 (by omega) (by omega)
                obtain ⟨oo, cf, gf, ef, hf1, hf2, hf3⟩ := HP.out.st.slice 1
                unfold maxLen at hf2
                have HF3 := Lib.hid hf3
                have H2N := Lib.hid h2n
                clear hfl HFl hf3 h2n HNil
                generalize hR1 : R2 1 = R1 at *
                have HRy := Lib.hid hR1
                clear hR1
                generalize hnf : R1.l.length = nf at *
                have HNF := Lib.hid hnf
                clear hnf
                generalize hv1 : R1.v = v1 at *
                have EV1 := Lib.hid hv1
                clear hv1
                subst ef
                have l1 := HP.out.o1.cell
                have l2 := HP.out.o2.cell
                have f2 := HP.out.o2.free
                have l3 := HP.out.o3.cell
                have f3 := HP.out.o3.free
                have z1 := HP.out.o1.lt
                have z2 := HP.out.o2.lt
                have z3 := HP.out.o3.lt
                go_wp2_with fail
                clear l1 l2 f2 l3 f3 z1 z2 z3
                go_loopw [10] (fun i wr => PRel3 R1.l 1 nf w #[.int .i64 8, .string t, .int .i64 n, .complex .f64 x y, .slice oa k cap] #[.int .i64 0, .string ⟨#[]⟩, .int .i64 0, .complex .f64 0 0, .slice none 0 0] (.int .i64 8) (.string t) (.int .i64 n) (.complex .f64 x y) R0 R1 i wr) (fun i _ => nf - (intOf i).toNat)
                case atStart => exact ⟨0, R2, Nat.zero_le _, rfl, HRz.out, HRy.out, (by unfold Hid; rw [H2N.out]; simp [Pr.keep, Pr.keepFrom, Rw.nil]), (by simp [Hid, Pr.hasOp]), (by unfold Hid; rw [H2N.out]; exact HP.out)⟩
                case round =>
                  clear HP HRz HRy H2N
                  obtain ⟨k3, R3, hk3, rfl, HRz, HRy, HKe, HHo, HP⟩ := hrel
                  obtain ⟨wo, rfl⟩ : ∃ wo : World, wo = wr := ⟨_, rfl⟩
                  by_cases hlt : k3 < nf
                  · obtain ⟨f, hf⟩ : ∃ f, R1.l[k3]? = some f := ⟨_, List.getElem?_eq_getElem (by rw [HNF.out]; exact hlt)⟩
                    obtain ⟨rfl, hgf⟩ := HF3.out (by omega)
                    have HFf := Lib.hid hf
                    clear hf
                    have l1 := HP.out.o1.cell
                    have l2 := HP.out.o2.cell
                    have f2 := HP.out.o2.free
                    have l3 := HP.out.o3.cell
                    have f3 := HP.out.o3.free
                    have z1 := HP.out.o1.lt
                    have z2 := HP.out.o2.lt
                    have z3 := HP.out.o3.lt
                    go_wp2_with fail
                    clear l1 l2 f2 l3 f3 z1 z2 z3
                    go_loopw [11, 12] (fun tv j wr => TwRel R1.l f k3 wo tv j wr) (fun _ j _ => k3 - (intOf j).toNat)
                    case atStart => exact ⟨0, false, Nat.zero_le _, rfl, rfl, by simp [Hid, Pr.twice], Below.refl _ _⟩
                    case round =>
                      obtain ⟨j, a, hj, rfl, rfl, HTw, hb⟩ := hrel
                      have HB := Lib.hid hb
                      have HPj := Lib.hid (HP.out.later hb)
                      clear hb
                      obtain ⟨⟨c0, c1, c2, c3, c4⟩, Lf⟩ := HPj.out.st.at 1 (k := k3) (p := f) (by rw [HRy.out]; exact EV1.out) (by rw [HRy.out]; exact HFf.out)
                      rw [HRy.out] at c4 Lf
                      obtain ⟨o1, q1, hV1⟩ := lies_val Lf
                      rw [hV1] at c4 Lf
                      have zgf := World.block_lt_of_cell? _ _ c0
                      by_cases hlj : j < k3
                      · obtain ⟨q, hq⟩ : ∃ q, R1.l[j]? = some q := ⟨_, List.getElem?_eq_getElem (by rw [HNF.out]; omega)⟩
                        obtain ⟨⟨d0, d1, d2, d3, d4⟩, Lq⟩ := HPj.out.st.at 1 (k := j) (p := q) (by rw [HRy.out]; exact EV1.out) (by rw [HRy.out]; exact hq)
                        rw [HRy.out] at d4 Lq
                        obtain ⟨o2, q2, hV2⟩ := lies_val Lq
                        rw [hV2] at d4 Lq
                        have CC := fun dd os => refSame_any q f (.slice o2 q.kids.length q2) (.slice o1 f.kids.length q1) (Sort.grow (redrawn wr dd) os) ((show LP wr q _ from Lq.mono (fun _ _ _ => rfl) (fun b h => h.2.1)).later (below_regrown _ _ _) (Nat.le_refl _)) ((show LP wr f _ from Lf.mono (fun _ _ _ => rfl) (fun b h => h.2.1)).later (below_regrown _ _ _) (Nat.le_refl _))
                        have HT1 := Lib.hid (twice_take (f := f) hq)
                        generalize Pr.same q f = sm at *
                        have m3 := fun dd os => Lib.hid (Calls.regrown_of (CC dd os))
                        have r0 := fun dd os => cell_regrown c0 dd os
                        have r1 := fun dd os => cell_regrown c1 dd os
                        have r2 := fun dd os => cell_regrown c2 dd os
                        have r3 := fun dd os => cell_regrown c3 dd os
                        have r4 := fun dd os => cell_regrown c4 dd os
                        have s0 := fun dd os => cell_regrown d0 dd os
                        have s1 := fun dd os => cell_regrown d1 dd os
                        have s2 := fun dd os => cell_regrown d2 dd os
                        have s3 := fun dd os => cell_regrown d3 dd os
                        have s4 := fun dd os => cell_regrown d4 dd os
                        have i1 : (0 : Int) ≤ (j : Int) := by omega
                        have i2 : (j : Int) < (nf : Int) := by omega
                        have i3 : (0 : Int) ≤ (k3 : Int) := by omega
                        have i4 : (k3 : Int) < (nf : Int) := by omega
                        clear hq hV1 hV2 Lq Lf CC
                        go_wp2_with fail
                        refine wp_region_quiet_below (by kernel_rfl) (by kernel_rfl) ?_
                        repeat (first | go_big_quiet_step ((with_reducible exact (m3 _ _).out)) | quiet_step (with_reducible exact (m3 _ _).out))
                        refine wpQuiet_nil ?_
                        intro w7 hw'
                        have hb' := Lib.hid (regrown_below hw')
                        clear hw' m3 r0 r1 r2 r3 r4 s0 s1 s2 s3 s4
                        go_wp2_with fail
                        all_goals
                          go_roundw
                          case rel => exact ⟨j + 1, a || sm, by omega, by go_num, by simp_all, by unfold Hid; rw [HT1.out, ← HTw.out], HB.out.trans (hb'.out.mono HB.out.size)⟩
                          case measure => simp [intOf]; omega
                      · have ej : j = k3 := by omega
                        have hke := keep_take (no := 1) HFf.out
                        have hho := hasOp_take (o := 3 - 1) HFf.out
                        rw [← ej, ← HTw.out] at hke
                        rw [HHo.out] at hho
                        rw [show R1.l.take j = R1.l.take k3 by rw [ej], ← HKe.out, show R1.l.take (j + 1) = R1.l.take (k3 + 1) by rw [ej]] at hke
                        have HKE := Lib.hid hke
                        have HHO := Lib.hid hho
                        have hxs : (R3 2).l.length ≤ 60 := by
                          have e1 := Pr.keep_sizes 1 (R1.l.take k3)
                          have e2 := Pr.sizes_take_le R1.l k3
                          have e3 := Pr.len_le_sizes (Pr.keep 1 (R1.l.take k3))
                          have e4 := Pr.flat_sizes 8 R0.l
                          have e5 := HKS.out
                          have e6 := congrArg Pr.sizes HFL.out
                          rw [HKe.out]; omega
                        have HLf := Lib.hid Lf
                        have i1 : (0 : Int) ≤ (k3 : Int) := by omega
                        have i2 : (k3 : Int) < (nf : Int) := by omega
                        clear hke hho ej Lf hV1
                        have l1 := HPj.out.o1.cell
                        have l2 := HPj.out.o2.cell
                        have f2 := HPj.out.o2.free
                        have l3 := HPj.out.o3.cell
                        have f3 := HPj.out.o3.free
                        have z1 := HPj.out.o1.lt
                        have z2 := HPj.out.o2.lt
                        have z3 := HPj.out.o3.lt
                        by_cases hst : f.op = 3 - 1
                        · have gst : (f.op == 3 - 1) = true := by simp [hst]
                          have EQ := Lib.hid (HF.out.trans (show Pr.glue 8 t n x y R0.l = Pr.leaf (3 - 1) by
                            unfold Pr.glue
                            rw [show Pr.noOf 8 = 1 from rfl, ← HFL.out, if_pos (hasOp_at HFf.out hst)]))
                          simp only [show (3 : Int) - 1 = 2 from rfl] at gst EQ hst
                          go_wp2_with fail
                          have key := And.intro (st5_own HPj.out.o2 (.int .i64 2) (.string ⟨#[]⟩) (.int .i64 0) (.complex .f64 0 0) (.slice none 0 0)) (And.intro (st5_below (b := w.heap.size + 1) HPj.out.bel (by omega) (.int .i64 2) (.string ⟨#[]⟩) (.int .i64 0) (.complex .f64 0 0) (.slice none 0 0)) (Lib.hid (st5_lies (w := w) (c0 := .int .i64 2) (c1 := .string ⟨#[]⟩) (c2 := .int .i64 0) (c3 := .complex .f64 0 0) (c4 := .slice none 0 0) (show Lies 5 pc (fun b => w.heap.size + 3 ≤ b ∧ b < wr.heap.size) wr (Pr.leaf 2) (.slice none 0 0) from lies_nil (by decide)))))
                          clear l1 l2 f2 l3 f3 z1 z2 z3
                          unfold st5 at key
                          revert key
                          generalize World.setCell (World.setCell (World.setCell (World.setCell (World.setCell _ _ _) _ _) _ _) _ _) _ _ = WW
                          rintro ⟨of, bf, HE⟩
                          have lf := of.cell
                          refine bodyPost_ret (v := .agg #[.int .i64 2, .string ⟨#[]⟩, .int .i64 0, .complex .f64 0 0, .slice none 0 0]) (by simp [results, Try.results14, go_sem, lf]) rfl (plainOut_of EQ.out ⟨(.slice none 0 0), rfl, HE.out, bf⟩)
                        · have gst : (f.op == 3 - 1) = false := by rw [beq_eq_false_iff_ne]; exact hst
                          have HHO1 := Lib.hid (show Pr.hasOp (3 - 1) (R1.l.take (k3 + 1)) = false by rw [HHO.out, decide_eq_false hst]; rfl)
                          simp only [show (3 : Int) - 1 = 2 from rfl] at gst
                          by_cases hno : f.op = 1
                          · have gno : (f.op != 1) = false := by simp [hno]
                            have HKE1 := Lib.hid (show (R3 2).l = Pr.keep 1 (R1.l.take (k3 + 1)) by rw [HKE.out, if_pos (.inr hno)]; simp)
                            cases a
                            all_goals
                              go_wp2_with fail
                              go_roundw
                              case rel => exact ⟨k3 + 1, R3, by omega, by go_num, HRz.out, HRy.out, HKE1.out, HHO1.out, HPj.out⟩
                              case measure => simp [intOf]; omega
                          · have gno : (f.op != 1) = true := by rw [bne_iff_ne]; exact hno
                            cases a
                            · have HKE1 := Lib.hid (show (R3 2).l ++ [f] = Pr.keep 1 (R1.l.take (k3 + 1)) by rw [HKE.out, if_neg (by simp [hno])])
                              go_wp2_with fail
                              go_region_law
                                ((refine step_append_lies _ (by rfl) _ _ _ (by rfl) (w.heap.size + 3) 33 i0 _ 5 72 Try.underlying31 hi hz0 hz1 hz2 rfl (by omega) (R3 2).v (R3 2).l.length (newsOf (R3 2).V 0 (R3 2).l) (by rfl) (((HPj.out.alloc _).drew).st.row 2).1 ⟨wr.heap.size, 0, none⟩ 1 1 (newsOf (fun _ => Value.slice o1 f.kids.length q1) 0 [f]) (by rfl) (by rfl) news1 (news1_one rfl) (by omega) (by unfold maxLen; omega) (by omega) (by have := HPj.out.base; simp; omega) (wr.heap.size + 1) (by simp) ?_; intro g cap' w3 hown3 hgrow hat hlt3; have fz := ((HPj.out.alloc (.cells #[.int .i64 f.op, .string f.text, .int .i64 f.n, .complex .f64 f.x f.y, .slice o1 f.kids.length q1] 33)).drew.o3.grown hgrow (own_ne ((HPj.out.alloc (.cells #[.int .i64 f.op, .string f.text, .int .i64 f.n, .complex .f64 f.x f.y, .slice o1 f.kids.length q1] 33)).drew.st.row 2).1 (by omega))).free 4; have fc := ((HPj.out.alloc (.cells #[.int .i64 f.op, .string f.text, .int .i64 f.n, .complex .f64 f.x f.y, .slice o1 f.kids.length q1] 33)).drew.o3.grown hgrow (own_ne ((HPj.out.alloc (.cells #[.int .i64 f.op, .string f.text, .int .i64 f.n, .complex .f64 f.x f.y, .slice o1 f.kids.length q1] 33)).drew.st.row 2).1 (by omega))).cell))
                              all_goals
                                have R5 := Lib.hid ((((HPj.out.alloc (.cells #[.int .i64 f.op, .string f.text, .int .i64 f.n, .complex .f64 f.x f.y, .slice o1 f.kids.length q1] 33)).drew).push 2 [f] (fun _ => .slice o1 f.kids.length q1) (fun j p hp => by
                                  match j, hp with
                                  | 0, hp =>
                                    simp at hp; subst hp
                                    exact HLf.out.mono (fun b o hS => World.cell?_of_block (Below.heap_alloc _ _ _ hS.2.1)) (fun b hS => ⟨hS.1, by have := hS.2.1; simp; omega, hS.2.2⟩)) rfl hown3 hgrow (by simpa using hat)).set4 (.slice (some ⟨g, 0, none⟩) ((R3 2).l.length + 1) cap'))
                                clear hown3 hgrow hat l1 l2 f2 l3 f3 z1 z2 z3
                                go_wp2_with fail
                                go_roundw
                                case rel => exact ⟨k3 + 1, upd R3 2 ⟨(R3 2).l ++ [f], .slice (some ⟨g, 0, none⟩) ((R3 2).l.length + 1) cap', glueV (R3 2).l.length (R3 2).V (fun _ => .slice o1 f.kids.length q1)⟩, by omega, by go_num, by unfold Hid; rw [upd_far _ _ (by omega)]; exact HRz.out, by unfold Hid; rw [upd_far _ _ (by omega)]; exact HRy.out, by unfold Hid; rw [upd_same]; exact HKE1.out, HHO1.out, R5.out⟩
                                case measure => simp [intOf]; omega
                            · have HKE1 := Lib.hid (show (R3 2).l = Pr.keep 1 (R1.l.take (k3 + 1)) by rw [HKE.out, if_pos (.inl rfl)]; simp)
                              go_wp2_with fail
                              go_roundw
                              case rel => exact ⟨k3 + 1, R3, by omega, by go_num, HRz.out, HRy.out, HKE1.out, HHO1.out, HPj.out⟩
                              case measure => simp [intOf]; omega
                  · have e : k3 = nf := by omega
                    have hke := HKe.out
                    have hho := HHo.out
                    rw [Pr.take_all R1.l (by rw [HNF.out]; omega)] at hke hho
                    have hgl : Pr.glue 8 t n x y R0.l = Pr.outOf 8 t n x y (R3 2).l := by
                      unfold Pr.glue
                      rw [show Pr.noOf 8 = 1 from rfl, ← HFL.out, if_neg (by rw [hho]; simp), ← hke]
                    have HGL := Lib.hid (HF.out.trans hgl)
                    clear hke hho hgl
                    obtain ⟨ox, cx, gx, ex, hx1, hx2, hx3⟩ := HP.out.st.slice 2
                    unfold maxLen at hx2
                    have l1 := HP.out.o1.cell
                    have l2 := HP.out.o2.cell
                    have f2 := HP.out.o2.free
                    have l3 := HP.out.o3.cell
                    have f3 := HP.out.o3.free
                    have z1 := HP.out.o1.lt
                    have z2 := HP.out.o2.lt
                    have z3 := HP.out.o3.lt
                    have hlx : (R3 2).l.length = 0 ∨ (R3 2).l.length = 1 ∨ 2 ≤ (R3 2).l.length := by omega
                    rcases hlx with hlx | hlx | hlx
                    · have EQ := Lib.hid (HGL.out.trans (show Pr.outOf 8 t n x y (R3 2).l = Pr.leaf 1 by rw [List.length_eq_zero_iff.1 hlx]; rfl))
                      rw [hlx] at ex
                      rw [ex] at l3
                      clear hx1 hx2 hx3 hlx ex
                      go_wp2_with fail
                      have key := And.intro (st5_own HP.out.o2 (.int .i64 1) (.string ⟨#[]⟩) (.int .i64 0) (.complex .f64 0 0) (.slice none 0 0)) (And.intro (st5_below (b := w.heap.size + 1) HP.out.bel (by omega) (.int .i64 1) (.string ⟨#[]⟩) (.int .i64 0) (.complex .f64 0 0) (.slice none 0 0)) (Lib.hid (st5_lies (w := w) (c0 := .int .i64 1) (c1 := .string ⟨#[]⟩) (c2 := .int .i64 0) (c3 := .complex .f64 0 0) (c4 := .slice none 0 0) (show Lies 5 pc (fun b => w.heap.size + 3 ≤ b ∧ b < wo.heap.size) wo (Pr.leaf 1) (.slice none 0 0) from lies_nil (by decide)))))
                      clear l1 l2 f2 l3 f3 z1 z2 z3
                      unfold st5 at key
                      revert key
                      generalize World.setCell (World.setCell (World.setCell (World.setCell (World.setCell _ _ _) _ _) _ _) _ _) _ _ = WW
                      rintro ⟨of, bf, HE⟩
                      have lf := of.cell
                      refine bodyPost_ret (v := .agg #[.int .i64 1, .string ⟨#[]⟩, .int .i64 0, .complex .f64 0 0, .slice none 0 0]) (by simp [results, Try.results14, go_sem, lf]) rfl (plainOut_of EQ.out ⟨(.slice none 0 0), rfl, HE.out, bf⟩)
                    · obtain ⟨d, hd⟩ : ∃ d, (R3 2).l = [d] := by
                        match (R3 2).l, hlx with
                        | [d], _ => exact ⟨d, rfl⟩
                      have EQ := Lib.hid (HGL.out.trans (show Pr.outOf 8 t n x y (R3 2).l = d by rw [hd]; rfl))
                      rw [hlx] at ex hx3
                      obtain ⟨rfl, hgx⟩ := hx3 (by omega)
                      obtain ⟨⟨c0, c1, c2, c3, c4⟩, Ld⟩ := HP.out.st.at 2 (k := 0) (p := d) ex (by rw [hd]; rfl)
                      obtain ⟨od, cd, hV1⟩ := lies_val Ld
                      rw [hV1] at c4 Ld
                      simp only [Nat.zero_mul, Nat.zero_add] at c0 c1 c2 c3 c4
                      have HLd := Lib.hid (Ld.mono (S' := fun b => w.heap.size + 3 ≤ b ∧ b < wo.heap.size) (fun _ _ _ => rfl) (fun b h => ⟨h.1, h.2.1⟩))
                      rw [ex] at l3
                      clear hx1 hx2 hx3 hlx Ld hV1 hd ex
                      go_wp2_with fail
                      have key := And.intro (st5_own HP.out.o2 (.int .i64 d.op) (.string d.text) (.int .i64 d.n) (.complex .f64 d.x d.y) ((.slice od d.kids.length cd))) (And.intro (st5_below (b := w.heap.size + 1) HP.out.bel (by omega) (.int .i64 d.op) (.string d.text) (.int .i64 d.n) (.complex .f64 d.x d.y) ((.slice od d.kids.length cd))) (Lib.hid (st5_lies (w := w) (c0 := .int .i64 d.op) (c1 := .string d.text) (c2 := .int .i64 d.n) (c3 := .complex .f64 d.x d.y) (c4 := (.slice od d.kids.length cd)) (show Lies 5 pc (fun b => w.heap.size + 3 ≤ b ∧ b < wo.heap.size) wo d (.slice od d.kids.length cd) from HLd.out))))
                      clear l1 l2 f2 l3 f3 z1 z2 z3
                      unfold st5 at key
                      revert key
                      generalize World.setCell (World.setCell (World.setCell (World.setCell (World.setCell _ _ _) _ _) _ _) _ _) _ _ = WW
                      rintro ⟨of, bf, HE⟩
                      have lf := of.cell
                      refine bodyPost_ret (v := .agg #[.int .i64 d.op, .string d.text, .int .i64 d.n, .complex .f64 d.x d.y, (.slice od d.kids.length cd)]) (by simp [results, Try.results14, go_sem, lf]) rfl (plainOut_of EQ.out ⟨(.slice od d.kids.length cd), rfl, HE.out, bf⟩)
                    · have EQ := Lib.hid (HGL.out.trans (show Pr.outOf 8 t n x y (R3 2).l = .node 8 t n x y (R3 2).l by
                        match (R3 2).l, hlx with
                        | a :: b :: l, _ => rfl))
                      have HLo := Lib.hid (HP.out.st.lies 2 (Nat.le_refl _) 8 t n x y ht)
                      rw [ex] at HLo
                      rw [ex] at l3
                      have g0 : (((R3 2).l.length : Int) == 0) = false := by rw [beq_eq_false_iff_ne]; omega
                      have g1 : (((R3 2).l.length : Int) == 1) = false := by rw [beq_eq_false_iff_ne]; omega
                      clear hx3 ex
                      go_wp2_with fail
                      have key := And.intro (st5_own HP.out.o2 (.int .i64 8) (.string t) (.int .i64 n) (.complex .f64 x y) (.slice ox (R3 2).l.length cx)) (And.intro (st5_below (b := w.heap.size + 1) HP.out.bel (by omega) (.int .i64 8) (.string t) (.int .i64 n) (.complex .f64 x y) (.slice ox (R3 2).l.length cx)) (Lib.hid (st5_lies (w := w) (c0 := .int .i64 8) (c1 := .string t) (c2 := .int .i64 n) (c3 := .complex .f64 x y) (c4 := .slice ox (R3 2).l.length cx) (show Lies 5 pc (fun b => w.heap.size + 3 ≤ b ∧ b < wo.heap.size) wo (.node 8 t n x y (R3 2).l) (.slice ox (R3 2).l.length cx) from HLo.out))))
                      clear l1 l2 f2 l3 f3 z1 z2 z3
                      unfold st5 at key
                      revert key
                      generalize World.setCell (World.setCell (World.setCell (World.setCell (World.setCell _ _ _) _ _) _ _) _ _) _ _ = WW
                      rintro ⟨of, bf, HE⟩
                      have lf := of.cell
                      refine bodyPost_ret (v := .agg #[.int .i64 8, .string t, .int .i64 n, .complex .f64 x y, .slice ox (R3 2).l.length cx]) (by simp [results, Try.results14, go_sem, lf]) rfl (plainOut_of EQ.out ⟨(.slice ox (R3 2).l.length cx), rfl, HE.out, bf⟩)
          · have hf : Pr.finish 9 t n x y (Pr.plains kids) = Pr.glue 9 t n x y (R 0).l := by rw [HL1.out]; simp [Pr.finish]
            have HF := Lib.hid (HPL.out.trans hf)
            have hgood : ∀ a ∈ (R 0).l, Pr.IsPl a ∧ a.all = true := by
              intro a ha
              rw [HL1.out, Pr.plains_map, List.mem_map] at ha
              obtain ⟨c, hc, rfl⟩ := ha
              have := Pr.plain_good c (Pr.all_mem hc HA.out.2)
              exact ⟨this.1, this.2.1⟩
            have hks : Pr.sizes (R 0).l ≤ 60 := by
              have h1 : ∀ l : List Pr, Pr.alls l = true → Pr.sizes (Pr.plains l) ≤ Pr.sizes l := by
                intro l
                induction l with
                | nil => intro _; simp [Pr.plains]
                | cons a l ihl =>
                  intro h
                  simp only [Pr.alls, Bool.and_eq_true] at h
                  have := (Pr.plain_good a h.1).2.2.1
                  have := ihl h.2
                  simp only [Pr.plains, Pr.sizes]; omega
              have := h1 kids HA.out.2
              rw [HL1.out]; omega
            have HKS := Lib.hid hks
            have HGood := Lib.hid hgood
            clear hf HPL hgood hks
            generalize hR0 : R 0 = R0 at *
            have HR0 := Lib.hid hR0
            clear hR0
            go_wp2_with fail
            clear l1 l2 f2 l3 f3 z1 z2 z3
            go_loopw [8, 9] (fun fv i wr => PRel2 R0.l 9 k w #[.int .i64 9, .string t, .int .i64 n, .complex .f64 x y, .slice oa k cap] #[.int .i64 0, .string ⟨#[]⟩, .int .i64 0, .complex .f64 0 0, .slice none 0 0] #[.int .i64 9, .string t, .int .i64 n, .complex .f64 x y, .slice none 0 0] R0 fv i wr) (fun _ i _ => k - (intOf i).toNat)
            case atStart => exact ⟨0, R, Nat.zero_le _, rfl, (by rw [HNil.out 1 (by omega)]; rfl), HR0.out, (by unfold Hid; rw [HNil.out 1 (by omega)]; simp [Pr.flat, Rw.nil]), (fun j h0 _ => HNil.out j h0), HP.out⟩
            case round =>
              clear HP HNil
              obtain ⟨k2, R2, hk2, rfl, rfl, HRz, HFl, HNil, HP⟩ := hrel
              by_cases hlt : k2 < k
              · obtain ⟨a, ha⟩ : ∃ a, R0.l[k2]? = some a := ⟨_, List.getElem?_eq_getElem (by rw [HLEN0.out]; exact hlt)⟩
                obtain ⟨rfl, hgk⟩ := HK3.out (by omega)
                obtain ⟨⟨c0, c1, c2, c3, c4⟩, La⟩ := HP.out.st.at 0 (k := k2) (p := a) (by rw [HRz.out]; exact EV.out) (by rw [HRz.out]; exact ha)
                rw [HRz.out] at c4 La
                obtain ⟨oq, cq, b2, o2, V2, hV, _, hl2, hc2, hn2, hcell2, hrec2⟩ := lies_slice La
                rw [hV] at c4
                have hgkw := World.block_lt_of_cell? _ _ c0
                have hsf := flat_take (op := 9) ha
                have hsz : ((R2 1).l.length ≤ 60 ∧ (R2 1).l.length + a.kids.length ≤ 60) ∧ (R2 1).l.length + 1 ≤ 60 := by
                  have e1 := Pr.flat_sizes 9 (R0.l.take (k2 + 1))
                  have e2 := Pr.sizes_take_le R0.l (k2 + 1)
                  have e3 := Pr.len_le_sizes (Pr.flat 9 (R0.l.take (k2 + 1)))
                  have e4 := HKS.out
                  have e5 := Pr.flat_sizes 9 (R0.l.take k2)
                  have e6 := Pr.sizes_take ha
                  have e7 := Pr.len_le_sizes (Pr.flat 9 (R0.l.take k2))
                  have e8 := Pr.size_kids a
                  have e9 := Pr.len_le_sizes a.kids
                  rw [HFl.out]
                  omega
                have r0 := fun dd os => cell_regrown c0 dd os
                have x0 := fun dd os o => HP.out.o1.has.regrown dd os o
                have hk20 : (0 : Int) ≤ (k2 : Int) := by omega
                have hk21 : (k2 : Int) < (k : Int) := by omega
                have HA9 := Lib.hid ha
                have HLa := Lib.hid La
                have HSF := Lib.hid hsf
                have HC2 := Lib.hid hcell2
                have HR2 := Lib.hid hrec2
                have HN2 := Lib.hid hn2
                have HG := Lib.hid (HGood.out a (List.mem_of_getElem? ha))
                have HSZ := Lib.hid hsz
                have HV := Lib.hid hV
                clear ha La hsf hcell2 hrec2 hn2 hsz hV
                by_cases ho : a.op = 9
                · have g1 : (a.op == 9) = true := by simp [ho]
                  have hm := (HG.out.1.many (by omega)).1
                  obtain ⟨rfl, hS2⟩ := HN2.out (by omega)
                  have hm60 : a.kids.length ≤ 60 := by have := HSZ.out; omega
                  have hm0 : 0 < a.kids.length := by omega
                  go_wp2_with fail
                  refine wp_region_quiet_below (by kernel_rfl) (by kernel_rfl) ?_
                  repeat (first | go_big_quiet_step (fail) | quiet_step (fail))
                  refine wpQuiet_nil ?_
                  intro w7 hw'
                  have hb' := Lib.hid (regrown_below hw')
                  clear hw' r0 x0
                  have HP7 := Lib.hid (HP.out.later hb'.out)
                  have hgb : ∀ o, w7.cell? ⟨gk, o, none⟩ = wr.cell? ⟨gk, o, none⟩ := fun o => hb'.out.cell (p := ⟨gk, o, none⟩) hgkw
                  go_wp2_with (at_builtin; refine wpList_append_lies _ (by rfl) _ _ _ (by rfl) (w.heap.size + 3) 33 i0 _ 5 72 Try.underlying31 hi hz0 hz1 hz2 rfl (by omega) (R2 1).v (R2 1).l.length (newsOf (R2 1).V 0 (R2 1).l) (by rfl) (HP7.out.st.row 1).1 ⟨b2, o2, none⟩ a.kids.length cq (newsOf V2 0 a.kids) (by rfl) (news_len _ _ _) (lies_news (fun i p hp j u hu => (hb'.out.cell (p := ⟨b2, o2 + i * 5 + j, none⟩) hS2.2.1).trans (HC2.out i p hp j u hu))) (news_mem fun i p hp => by rw [Nat.zero_add]; exact lies_one (HR2.out i p hp)) (by omega) (by have := HSZ.out; unfold maxLen; omega) (by have := HSZ.out; omega) (HP7.out.base) (w7.heap.size) (by simp) ?_; intro g cap' w3 hown3 hgrow hat hlt3)
                  have R1 := Lib.hid (HP7.out.push 1 a.kids V2 (fun j p hp => (HR2.out j p hp).mono (fun b o hS => hb'.out.cell (p := ⟨b, o, none⟩) hS.2.1) (fun b hS => ⟨hS.1, Nat.lt_of_lt_of_le hS.2.1 hb'.out.size, hS.2.2⟩)) rfl hown3 hgrow hat)
                  clear hown3 hgrow hat
                  go_roundw
                  case rel => exact ⟨k2 + 1, _, by omega, by go_num, by simp [upd], by unfold Hid; rw [upd_far _ _ (by omega)]; exact HRz.out, by unfold Hid; rw [upd_same, HSF.out, if_pos ho, ← HFl.out], (fun j h0 h1 => by rw [upd_far _ _ h1]; exact HNil.out j h0 h1), R1.out⟩
                  case measure => simp [intOf]; omega
                · have g1 : (a.op == 9) = false := by rw [beq_eq_false_iff_ne]; exact ho
                  have HP0 := Lib.hid HP.out
                  go_wp2_with fail
                  refine wp_region_quiet_below (by kernel_rfl) (by kernel_rfl) ?_
                  repeat (first | go_big_quiet_step (fail) | quiet_step (fail))
                  refine wpQuiet_nil ?_
                  intro w7 hw'
                  have hb' := Lib.hid (regrown_below hw')
                  clear hw' r0 x0
                  have HP7 := Lib.hid (HP.out.later hb'.out)
                  have hgb : ∀ o, w7.cell? ⟨gk, o, none⟩ = wr.cell? ⟨gk, o, none⟩ := fun o => hb'.out.cell (p := ⟨gk, o, none⟩) hgkw
                  go_wp2_with (at_builtin; refine wpList_append_lies _ (by rfl) _ _ _ (by rfl) (w.heap.size + 3) 33 i0 _ 5 72 Try.underlying31 hi hz0 hz1 hz2 rfl (by omega) (R2 1).v (R2 1).l.length (newsOf (R2 1).V 0 (R2 1).l) (by rfl) ((HP7.out.alloc _).st.row 1).1 ⟨w7.heap.size, 0, none⟩ 1 1 (newsOf (fun _ => Value.slice oq a.kids.length cq) 0 [a]) (by rfl) (by rfl) news1 (news1_one rfl) (by omega) (by have := HSZ.out; unfold maxLen; omega) (by have := HSZ.out; omega) (by have := HP7.out.base; simp; omega) (w7.heap.size + 1) (by simp) ?_; intro g cap' w3 hown3 hgrow hat hlt3)
                  have R1 := Lib.hid ((HP7.out.alloc (.cells #[.int .i64 a.op, .string a.text, .int .i64 a.n, .complex .f64 a.x a.y, .slice oq a.kids.length cq] 33)).push 1 [a] (fun _ => .slice oq a.kids.length cq) (fun j p hp => by
                    match j, hp with
                    | 0, hp =>
                      simp at hp; subst hp
                      have h9 := HLa.out
                      rw [HV.out] at h9
                      exact h9.mono (fun b o hS => (World.cell?_of_block (Below.heap_alloc _ _ _ (Nat.lt_of_lt_of_le hS.2.1 hb'.out.size))).trans (hb'.out.cell (p := ⟨b, o, none⟩) hS.2.1)) (fun b hS => ⟨hS.1, by have := hb'.out.size; have := hS.2.1; simp; omega, hS.2.2⟩)) rfl hown3 hgrow (by simpa using hat))
                  clear hown3 hgrow hat
                  go_roundw
                  case rel => exact ⟨k2 + 1, _, by omega, by go_num, by simp [upd], by unfold Hid; rw [upd_far _ _ (by omega)]; exact HRz.out, by unfold Hid; rw [upd_same, HSF.out, if_neg ho, ← HFl.out], (fun j h0 h1 => by rw [upd_far _ _ h1]; exact HNil.out j h0 h1), R1.out⟩
                  case measure => simp [intOf]; omega
              · have hfl : (R2 1).l = Pr.flat 9 R0.l := by
                  have := HFl.out
                  rw [Pr.take_all R0.l (by rw [HLEN0.out]; omega)] at this
                  exact this
                have HFL := Lib.hid hfl
                have hfs : (R2 1).l.length ≤ 60 := by
                  have e1 := Pr.flat_sizes 9 R0.l
                  have e3 := Pr.len_le_sizes (Pr.flat 9 R0.l)
                  have e4 := HKS.out
                  rw [hfl]; omega
                have h2n := HNil.out 2 (by omega) (by omega)
                obtain ⟨oo, cf, gf, ef, hf1, hf2, hf3⟩ := HP.out.st.slice 1
                unfold maxLen at hf2
                have HF3 := Lib.hid hf3
                have H2N := Lib.hid h2n
                clear hfl HFl hf3 h2n HNil
                generalize hR1 : R2 1 = R1 at *
                have HRy := Lib.hid hR1
                clear hR1
                generalize hnf : R1.l.length = nf at *
                have HNF := Lib.hid hnf
                clear hnf
                generalize hv1 : R1.v = v1 at *
                have EV1 := Lib.hid hv1
                clear hv1
                subst ef
                have l1 := HP.out.o1.cell
                have l2 := HP.out.o2.cell
                have f2 := HP.out.o2.free
                have l3 := HP.out.o3.cell
                have f3 := HP.out.o3.free
                have z1 := HP.out.o1.lt
                have z2 := HP.out.o2.lt
                have z3 := HP.out.o3.lt
                go_wp2_with fail
                clear l1 l2 f2 l3 f3 z1 z2 z3
                go_loopw [10] (fun i wr => PRel3 R1.l 2 nf w #[.int .i64 9, .string t, .int .i64 n, .complex .f64 x y, .slice oa k cap] #[.int .i64 0, .string ⟨#[]⟩, .int .i64 0, .complex .f64 0 0, .slice none 0 0] (.int .i64 9) (.string t) (.int .i64 n) (.complex .f64 x y) R0 R1 i wr) (fun i _ => nf - (intOf i).toNat)
                case atStart => exact ⟨0, R2, Nat.zero_le _, rfl, HRz.out, HRy.out, (by unfold Hid; rw [H2N.out]; simp [Pr.keep, Pr.keepFrom, Rw.nil]), (by simp [Hid, Pr.hasOp]), (by unfold Hid; rw [H2N.out]; exact HP.out)⟩
                case round =>
                  clear HP HRz HRy H2N
                  obtain ⟨k3, R3, hk3, rfl, HRz, HRy, HKe, HHo, HP⟩ := hrel
                  obtain ⟨wo, rfl⟩ : ∃ wo : World, wo = wr := ⟨_, rfl⟩
                  by_cases hlt : k3 < nf
                  · obtain ⟨f, hf⟩ : ∃ f, R1.l[k3]? = some f := ⟨_, List.getElem?_eq_getElem (by rw [HNF.out]; exact hlt)⟩
                    obtain ⟨rfl, hgf⟩ := HF3.out (by omega)
                    have HFf := Lib.hid hf
                    clear hf
                    have l1 := HP.out.o1.cell
                    have l2 := HP.out.o2.cell
                    have f2 := HP.out.o2.free
                    have l3 := HP.out.o3.cell
                    have f3 := HP.out.o3.free
                    have z1 := HP.out.o1.lt
                    have z2 := HP.out.o2.lt
                    have z3 := HP.out.o3.lt
                    go_wp2_with fail
                    clear l1 l2 f2 l3 f3 z1 z2 z3
                    go_loopw [11, 12] (fun tv j wr => TwRel R1.l f k3 wo tv j wr) (fun _ j _ => k3 - (intOf j).toNat)
                    case atStart => exact ⟨0, false, Nat.zero_le _, rfl, rfl, by simp [Hid, Pr.twice], Below.refl _ _⟩
                    case round =>
                      obtain ⟨j, a, hj, rfl, rfl, HTw, hb⟩ := hrel
                      have HB := Lib.hid hb
                      have HPj := Lib.hid (HP.out.later hb)
                      clear hb
                      obtain ⟨⟨c0, c1, c2, c3, c4⟩, Lf⟩ := HPj.out.st.at 1 (k := k3) (p := f) (by rw [HRy.out]; exact EV1.out) (by rw [HRy.out]; exact HFf.out)
                      rw [HRy.out] at c4 Lf
                      obtain ⟨o1, q1, hV1⟩ := lies_val Lf
                      rw [hV1] at c4 Lf
                      have zgf := World.block_lt_of_cell? _ _ c0
                      by_cases hlj : j < k3
                      · obtain ⟨q, hq⟩ : ∃ q, R1.l[j]? = some q := ⟨_, List.getElem?_eq_getElem (by rw [HNF.out]; omega)⟩
                        obtain ⟨⟨d0, d1, d2, d3, d4⟩, Lq⟩ := HPj.out.st.at 1 (k := j) (p := q) (by rw [HRy.out]; exact EV1.out) (by rw [HRy.out]; exact hq)
                        rw [HRy.out] at d4 Lq
                        obtain ⟨o2, q2, hV2⟩ := lies_val Lq
                        rw [hV2] at d4 Lq
                        have CC := fun dd os => refSame_any q f (.slice o2 q.kids.length q2) (.slice o1 f.kids.length q1) (Sort.grow (redrawn wr dd) os) ((show LP wr q _ from Lq.mono (fun _ _ _ => rfl) (fun b h => h.2.1)).later (below_regrown _ _ _) (Nat.le_refl _)) ((show LP wr f _ from Lf.mono (fun _ _ _ => rfl) (fun b h => h.2.1)).later (below_regrown _ _ _) (Nat.le_refl _))
                        have HT1 := Lib.hid (twice_take (f := f) hq)
                        generalize Pr.same q f = sm at *
                        have m3 := fun dd os => Lib.hid (Calls.regrown_of (CC dd os))
                        have r0 := fun dd os => cell_regrown c0 dd os
                        have r1 := fun dd os => cell_regrown c1 dd os
                        have r2 := fun dd os => cell_regrown c2 dd os
                        have r3 := fun dd os => cell_regrown c3 dd os
                        have r4 := fun dd os => cell_regrown c4 dd os
                        have s0 := fun dd os => cell_regrown d0 dd os
                        have s1 := fun dd os => cell_regrown d1 dd os
                        have s2 := fun dd os => cell_regrown d2 dd os
                        have s3 := fun dd os => cell_regrown d3 dd os
                        have s4 := fun dd os => cell_regrown d4 dd os
                        have i1 : (0 : Int) ≤ (j : Int) := by omega
                        have i2 : (j : Int) < (nf : Int) := by omega
                        have i3 : (0 : Int) ≤ (k3 : Int) := by omega
                        have i4 : (k3 : Int) < (nf : Int) := by omega
                        clear hq hV1 hV2 Lq Lf CC
                        go_wp2_with fail
                        refine wp_region_quiet_below (by kernel_rfl) (by kernel_rfl) ?_
                        repeat (first | go_big_quiet_step ((with_reducible exact (m3 _ _).out)) | quiet_step (with_reducible exact (m3 _ _).out))
                        refine wpQuiet_nil ?_
                        intro w7 hw'
                        have hb' := Lib.hid (regrown_below hw')
                        clear hw' m3 r0 r1 r2 r3 r4 s0 s1 s2 s3 s4
                        go_wp2_with fail
                        all_goals
                          go_roundw
                          case rel => exact ⟨j + 1, a || sm, by omega, by go_num, by simp_all, by unfold Hid; rw [HT1.out, ← HTw.out], HB.out.trans (hb'.out.mono HB.out.size)⟩
                          case measure => simp [intOf]; omega
                      · have ej : j = k3 := by omega
                        have hke := keep_take (no := 2) HFf.out
                        have hho := hasOp_take (o := 3 - 2) HFf.out
                        rw [← ej, ← HTw.out] at hke
                        rw [HHo.out] at hho
                        rw [show R1.l.take j = R1.l.take k3 by rw [ej], ← HKe.out, show R1.l.take (j + 1) = R1.l.take (k3 + 1) by rw [ej]] at hke
                        have HKE := Lib.hid hke
                        have HHO := Lib.hid hho
                        have hxs : (R3 2).l.length ≤ 60 := by
                          have e1 := Pr.keep_sizes 2 (R1.l.take k3)
                          have e2 := Pr.sizes_take_le R1.l k3
                          have e3 := Pr.len_le_sizes (Pr.keep 2 (R1.l.take k3))
                          have e4 := Pr.flat_sizes 9 R0.l
                          have e5 := HKS.out
                          have e6 := congrArg Pr.sizes HFL.out
                          rw [HKe.out]; omega
                        have HLf := Lib.hid Lf
                        have i1 : (0 : Int) ≤ (k3 : Int) := by omega
                        have i2 : (k3 : Int) < (nf : Int) := by omega
                        clear hke hho ej Lf hV1
                        have l1 := HPj.out.o1.cell
                        have l2 := HPj.out.o2.cell
                        have f2 := HPj.out.o2.free
                        have l3 := HPj.out.o3.cell
                        have f3 := HPj.out.o3.free
                        have z1 := HPj.out.o1.lt
                        have z2 := HPj.out.o2.lt
                        have z3 := HPj.out.o3.lt
                        by_cases hst : f.op = 3 - 2
                        · have gst : (f.op == 3 - 2) = true := by simp [hst]
                          have EQ := Lib.hid (HF.out.trans (show Pr.glue 9 t n x y R0.l = Pr.leaf (3 - 2) by
                            unfold Pr.glue
                            rw [show Pr.noOf 9 = 2 from rfl, ← HFL.out, if_pos (hasOp_at HFf.out hst)]))
                          simp only [show (3 : Int) - 2 = 1 from rfl] at gst EQ hst
                          go_wp2_with fail
                          have key := And.intro (st5_own HPj.out.o2 (.int .i64 1) (.string ⟨#[]⟩) (.int .i64 0) (.complex .f64 0 0) (.slice none 0 0)) (And.intro (st5_below (b := w.heap.size + 1) HPj.out.bel (by omega) (.int .i64 1) (.string ⟨#[]⟩) (.int .i64 0) (.complex .f64 0 0) (.slice none 0 0)) (Lib.hid (st5_lies (w := w) (c0 := .int .i64 1) (c1 := .string ⟨#[]⟩) (c2 := .int .i64 0) (c3 := .complex .f64 0 0) (c4 := .slice none 0 0) (show Lies 5 pc (fun b => w.heap.size + 3 ≤ b ∧ b < wr.heap.size) wr (Pr.leaf 1) (.slice none 0 0) from lies_nil (by decide)))))
                          clear l1 l2 f2 l3 f3 z1 z2 z3
                          unfold st5 at key
                          revert key
                          generalize World.setCell (World.setCell (World.setCell (World.setCell (World.setCell _ _ _) _ _) _ _) _ _) _ _ = WW
                          rintro ⟨of, bf, HE⟩
                          have lf := of.cell
                          refine bodyPost_ret (v := .agg #[.int .i64 1, .string ⟨#[]⟩, .int .i64 0, .complex .f64 0 0, .slice none 0 0]) (by simp [results, Try.results14, go_sem, lf]) rfl (plainOut_of EQ.out ⟨(.slice none 0 0), rfl, HE.out, bf⟩)
                        · have gst : (f.op == 3 - 2) = false := by rw [beq_eq_false_iff_ne]; exact hst
                          have HHO1 := Lib.hid (show Pr.hasOp (3 - 2) (R1.l.take (k3 + 1)) = false by rw [HHO.out, decide_eq_false hst]; rfl)
                          simp only [show (3 : Int) - 2 = 1 from rfl] at gst
                          by_cases hno : f.op = 2
                          · have gno : (f.op != 2) = false := by simp [hno]
                            have HKE1 := Lib.hid (show (R3 2).l = Pr.keep 2 (R1.l.take (k3 + 1)) by rw [HKE.out, if_pos (.inr hno)]; simp)
                            cases a
                            all_goals
                              go_wp2_with fail
                              go_roundw
                              case rel => exact ⟨k3 + 1, R3, by omega, by go_num, HRz.out, HRy.out, HKE1.out, HHO1.out, HPj.out⟩
                              case measure => simp [intOf]; omega
                          · have gno : (f.op != 2) = true := by rw [bne_iff_ne]; exact hno
                            cases a
                            · have HKE1 := Lib.hid (show (R3 2).l ++ [f] = Pr.keep 2 (R1.l.take (k3 + 1)) by rw [HKE.out, if_neg (by simp [hno])])
                              go_wp2_with fail
                              go_region_law
                                ((refine step_append_lies _ (by rfl) _ _ _ (by rfl) (w.heap.size + 3) 33 i0 _ 5 72 Try.underlying31 hi hz0 hz1 hz2 rfl (by omega) (R3 2).v (R3 2).l.length (newsOf (R3 2).V 0 (R3 2).l) (by rfl) (((HPj.out.alloc _).drew).st.row 2).1 ⟨wr.heap.size, 0, none⟩ 1 1 (newsOf (fun _ => Value.slice o1 f.kids.length q1) 0 [f]) (by rfl) (by rfl) news1 (news1_one rfl) (by omega) (by unfold maxLen; omega) (by omega) (by have := HPj.out.base; simp; omega) (wr.heap.size + 1) (by simp) ?_; intro g cap' w3 hown3 hgrow hat hlt3; have fz := ((HPj.out.alloc (.cells #[.int .i64 f.op, .string f.text, .int .i64 f.n, .complex .f64 f.x f.y, .slice o1 f.kids.length q1] 33)).drew.o3.grown hgrow (own_ne ((HPj.out.alloc (.cells #[.int .i64 f.op, .string f.text, .int .i64 f.n, .complex .f64 f.x f.y, .slice o1 f.kids.length q1] 33)).drew.st.row 2).1 (by omega))).free 4; have fc := ((HPj.out.alloc (.cells #[.int .i64 f.op, .string f.text, .int .i64 f.n, .complex .f64 f.x f.y, .slice o1 f.kids.length q1] 33)).drew.o3.grown hgrow (own_ne ((HPj.out.alloc (.cells #[.int .i64 f.op, .string f.text, .int .i64 f.n, .complex .f64 f.x f.y, .slice o1 f.kids.length q1] 33)).drew.st.row 2).1 (by omega))).cell))
                              all_goals
                                have R5 := Lib.hid ((((HPj.out.alloc (.cells #[.int .i64 f.op, .string f.text, .int .i64 f.n, .complex .f64 f.x f.y, .slice o1 f.kids.length q1] 33)).drew).push 2 [f] (fun _ => .slice o1 f.kids.length q1) (fun j p hp => by
                                  match j, hp with
                                  | 0, hp =>
                                    simp at hp; subst hp
                                    exact HLf.out.mono (fun b o hS => World.cell?_of_block (Below.heap_alloc _ _ _ hS.2.1)) (fun b hS => ⟨hS.1, by have := hS.2.1; simp; omega, hS.2.2⟩)) rfl hown3 hgrow (by simpa using hat)).set4 (.slice (some ⟨g, 0, none⟩) ((R3 2).l.length + 1) cap'))
                                clear hown3 hgrow hat l1 l2 f2 l3 f3 z1 z2 z3
                                go_wp2_with fail
                                go_roundw
                                case rel => exact ⟨k3 + 1, upd R3 2 ⟨(R3 2).l ++ [f], .slice (some ⟨g, 0, none⟩) ((R3 2).l.length + 1) cap', glueV (R3 2).l.length (R3 2).V (fun _ => .slice o1 f.kids.length q1)⟩, by omega, by go_num, by unfold Hid; rw [upd_far _ _ (by omega)]; exact HRz.out, by unfold Hid; rw [upd_far _ _ (by omega)]; exact HRy.out, by unfold Hid; rw [upd_same]; exact HKE1.out, HHO1.out, R5.out⟩
                                case measure => simp [intOf]; omega
                            · have HKE1 := Lib.hid (show (R3 2).l = Pr.keep 2 (R1.l.take (k3 + 1)) by rw [HKE.out, if_pos (.inl rfl)]; simp)
                              go_wp2_with fail
                              go_roundw
                              case rel => exact ⟨k3 + 1, R3, by omega, by go_num, HRz.out, HRy.out, HKE1.out, HHO1.out, HPj.out⟩
                              case measure => simp [intOf]; omega
                  · have e : k3 = nf := by omega
                    have hke := HKe.out
                    have hho := HHo.out
                    rw [Pr.take_all R1.l (by rw [HNF.out]; omega)] at hke hho
                    have hgl : Pr.glue 9 t n x y R0.l = Pr.outOf 9 t n x y (R3 2).l := by
                      unfold Pr.glue
                      rw [show Pr.noOf 9 = 2 from rfl, ← HFL.out, if_neg (by rw [hho]; simp), ← hke]
                    have HGL := Lib.hid (HF.out.trans hgl)
                    clear hke hho hgl
                    obtain ⟨ox, cx, gx, ex, hx1, hx2, hx3⟩ := HP.out.st.slice 2
                    unfold maxLen at hx2
                    have l1 := HP.out.o1.cell
                    have l2 := HP.out.o2.cell
                    have f2 := HP.out.o2.free
                    have l3 := HP.out.o3.cell
                    have f3 := HP.out.o3.free
                    have z1 := HP.out.o1.lt
                    have z2 := HP.out.o2.lt
                    have z3 := HP.out.o3.lt
                    have hlx : (R3 2).l.length = 0 ∨ (R3 2).l.length = 1 ∨ 2 ≤ (R3 2).l.length := by omega
                    rcases hlx with hlx | hlx | hlx
                    · have EQ := Lib.hid (HGL.out.trans (show Pr.outOf 9 t n x y (R3 2).l = Pr.leaf 2 by rw [List.length_eq_zero_iff.1 hlx]; rfl))
                      rw [hlx] at ex
                      rw [ex] at l3
                      clear hx1 hx2 hx3 hlx ex
                      go_wp2_with fail
                      have key := And.intro (st5_own HP.out.o2 (.int .i64 2) (.string ⟨#[]⟩) (.int .i64 0) (.complex .f64 0 0) (.slice none 0 0)) (And.intro (st5_below (b := w.heap.size + 1) HP.out.bel (by omega) (.int .i64 2) (.string ⟨#[]⟩) (.int .i64 0) (.complex .f64 0 0) (.slice none 0 0)) (Lib.hid (st5_lies (w := w) (c0 := .int .i64 2) (c1 := .string ⟨#[]⟩) (c2 := .int .i64 0) (c3 := .complex .f64 0 0) (c4 := .slice none 0 0) (show Lies 5 pc (fun b => w.heap.size + 3 ≤ b ∧ b < wo.heap.size) wo (Pr.leaf 2) (.slice none 0 0) from lies_nil (by decide)))))
                      clear l1 l2 f2 l3 f3 z1 z2 z3
                      unfold st5 at key
                      revert key
                      generalize World.setCell (World.setCell (World.setCell (World.setCell (World.setCell _ _ _) _ _) _ _) _ _) _ _ = WW
                      rintro ⟨of, bf, HE⟩
                      have lf := of.cell
                      refine bodyPost_ret (v := .agg #[.int .i64 2, .string ⟨#[]⟩, .int .i64 0, .complex .f64 0 0, .slice none 0 0]) (by simp [results, Try.results14, go_sem, lf]) rfl (plainOut_of EQ.out ⟨(.slice none 0 0), rfl, HE.out, bf⟩)
                    · obtain ⟨d, hd⟩ : ∃ d, (R3 2).l = [d] := by
                        match (R3 2).l, hlx with
                        | [d], _ => exact ⟨d, rfl⟩
                      have EQ := Lib.hid (HGL.out.trans (show Pr.outOf 9 t n x y (R3 2).l = d by rw [hd]; rfl))
                      rw [hlx] at ex hx3
                      obtain ⟨rfl, hgx⟩ := hx3 (by omega)
                      obtain ⟨⟨c0, c1, c2, c3, c4⟩, Ld⟩ := HP.out.st.at 2 (k := 0) (p := d) ex (by rw [hd]; rfl)
                      obtain ⟨od, cd, hV1⟩ := lies_val Ld
                      rw [hV1] at c4 Ld
                      simp only [Nat.zero_mul, Nat.zero_add] at c0 c1 c2 c3 c4
                      have HLd := Lib.hid (Ld.mono (S' := fun b => w.heap.size + 3 ≤ b ∧ b < wo.heap.size) (fun _ _ _ => rfl) (fun b h => ⟨h.1, h.2.1⟩))
                      rw [ex] at l3
                      clear hx1 hx2 hx3 hlx Ld hV1 hd ex
                      go_wp2_with fail
                      have key := And.intro (st5_own HP.out.o2 (.int .i64 d.op) (.string d.text) (.int .i64 d.n) (.complex .f64 d.x d.y) ((.slice od d.kids.length cd))) (And.intro (st5_below (b := w.heap.size + 1) HP.out.bel (by omega) (.int .i64 d.op) (.string d.text) (.int .i64 d.n) (.complex .f64 d.x d.y) ((.slice od d.kids.length cd))) (Lib.hid (st5_lies (w := w) (c0 := .int .i64 d.op) (c1 := .string d.text) (c2 := .int .i64 d.n) (c3 := .complex .f64 d.x d.y) (c4 := (.slice od d.kids.length cd)) (show Lies 5 pc (fun b => w.heap.size + 3 ≤ b ∧ b < wo.heap.size) wo d (.slice od d.kids.length cd) from HLd.out))))
                      clear l1 l2 f2 l3 f3 z1 z2 z3
                      unfold st5 at key
                      revert key
                      generalize World.setCell (World.setCell (World.setCell (World.setCell (World.setCell _ _ _) _ _) _ _) _ _) _ _ = WW
                      rintro ⟨of, bf, HE⟩
                      have lf := of.cell
                      refine bodyPost_ret (v := .agg #[.int .i64 d.op, .string d.text, .int .i64 d.n, .complex .f64 d.x d.y, (.slice od d.kids.length cd)]) (by simp [results, Try.results14, go_sem, lf]) rfl (plainOut_of EQ.out ⟨(.slice od d.kids.length cd), rfl, HE.out, bf⟩)
                    · have EQ := Lib.hid (HGL.out.trans (show Pr.outOf 9 t n x y (R3 2).l = .node 9 t n x y (R3 2).l by
                        match (R3 2).l, hlx with
                        | a :: b :: l, _ => rfl))
                      have HLo := Lib.hid (HP.out.st.lies 2 (Nat.le_refl _) 9 t n x y ht)
                      rw [ex] at HLo
                      rw [ex] at l3
                      have g0 : (((R3 2).l.length : Int) == 0) = false := by rw [beq_eq_false_iff_ne]; omega
                      have g1 : (((R3 2).l.length : Int) == 1) = false := by rw [beq_eq_false_iff_ne]; omega
                      clear hx3 ex
                      go_wp2_with fail
                      have key := And.intro (st5_own HP.out.o2 (.int .i64 9) (.string t) (.int .i64 n) (.complex .f64 x y) (.slice ox (R3 2).l.length cx)) (And.intro (st5_below (b := w.heap.size + 1) HP.out.bel (by omega) (.int .i64 9) (.string t) (.int .i64 n) (.complex .f64 x y) (.slice ox (R3 2).l.length cx)) (Lib.hid (st5_lies (w := w) (c0 := .int .i64 9) (c1 := .string t) (c2 := .int .i64 n) (c3 := .complex .f64 x y) (c4 := .slice ox (R3 2).l.length cx) (show Lies 5 pc (fun b => w.heap.size + 3 ≤ b ∧ b < wo.heap.size) wo (.node 9 t n x y (R3 2).l) (.slice ox (R3 2).l.length cx) from HLo.out))))
                      clear l1 l2 f2 l3 f3 z1 z2 z3
                      unfold st5 at key
                      revert key
                      generalize World.setCell (World.setCell (World.setCell (World.setCell (World.setCell _ _ _) _ _) _ _) _ _) _ _ = WW
                      rintro ⟨of, bf, HE⟩
                      have lf := of.cell
                      refine bodyPost_ret (v := .agg #[.int .i64 9, .string t, .int .i64 n, .complex .f64 x y, .slice ox (R3 2).l.length cx]) (by simp [results, Try.results14, go_sem, lf]) rfl (plainOut_of EQ.out ⟨(.slice ox (R3 2).l.length cx), rfl, HE.out, bf⟩)
        · have g1 : (op == 10) = false := by rw [beq_eq_false_iff_ne]; exact e10
          have g2 : (op != 8) = true := by rw [bne_iff_ne]; omega
          have g3 : (op != 9) = true := by rw [bne_iff_ne]; omega
          have hf : Pr.finish op t n x y (Pr.plains kids) = .node op t n x y [] := by simp only [Pr.finish, if_neg e10, if_neg e89]
          have EQ := Lib.hid (HPL.out.trans hf)
          clear hf HPL
          go_wp2_with fail
          have key := And.intro (st5_own HP.out.o2 (.int .i64 op) (.string t) (.int .i64 n) (.complex .f64 x y) (.slice none 0 0)) (And.intro (st5_below (b := w.heap.size + 1) HP.out.bel (by omega) (.int .i64 op) (.string t) (.int .i64 n) (.complex .f64 x y) (.slice none 0 0)) (Lib.hid (st5_lies (w := w) (c0 := .int .i64 op) (c1 := .string t) (c2 := .int .i64 n) (c3 := .complex .f64 x y) (c4 := .slice none 0 0) (show Lies 5 pc (fun b => w.heap.size + 3 ≤ b ∧ b < wr.heap.size) wr (.node op t n x y []) (.slice none 0 0) from lies_nil ht))))
          clear l1 l2 f2 l3 f3 z1 z2 z3
          unfold st5 at key
          revert key
          generalize World.setCell (World.setCell (World.setCell (World.setCell (World.setCell _ _ _) _ _) _ _) _ _) _ _ = WW
          rintro ⟨of, bf, HE⟩
          have lf := of.cell
          refine bodyPost_ret (v := .agg #[.int .i64 op, .string t, .int .i64 n, .complex .f64 x y, .slice none 0 0]) (by simp [results, Try.results14, go_sem, lf]) rfl (plainOut_of EQ.out ⟨(.slice none 0 0), rfl, HE.out, bf⟩)

end Go.Proofs.Ytgfepbcolcmdgaa
