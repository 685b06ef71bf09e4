/- Joined: PlainM, RefBey, ListW, RefAlike. -/
import Derived.Test.YtjkcooakddlppaaGreatJ07
import Derived.Test.YtjkcooakddlppaaGreatJ06
import Derived.Test.YtjkcooakddlppaaGreatJ08
import Derived.Deep.CutBlock
import Derived.Deep.DeepCutAuto
/- Filters made plain: plain mathematics. No walk. -/
namespace Go.Proofs.YtjkcooakddlppaaGreat
set_option linter.unusedVariables false
set_option linter.unusedSimpArgs false
set_option maxRecDepth 100000
namespace Pr
def leaf (op : Int) : Pr := node op ⟨#[]⟩ 0 0 0 []
def flat (op : Int) : List Pr → List Pr
  | [] => []
  | k :: l => (if k.op = op then k.kids else [k]) ++ flat op l
def twice (l : List Pr) (a : Pr) : Bool := l.any fun b => same b a
def keepFrom (no : Int) : List Pr → List Pr → List Pr
  | _, [] => []
  | pre, a :: l => (if twice pre a = true ∨ a.op = no then [] else [a]) ++ keepFrom no (pre ++ [a]) l
def keep (no : Int) (l : List Pr) : List Pr := keepFrom no [] l
def noOf (op : Int) : Int := if op = 9 then 2 else 1
def hasOp (o : Int) (l : List Pr) : Bool := l.any fun b => decide (b.op = o)
def outOf (op : Int) (t : ByteArray) (n : Int) (x y : Nat) : List Pr → Pr
  | [] => leaf (noOf op)
  | [a] => a
  | l => node op t n x y l
def glue (op : Int) (t : ByteArray) (n : Int) (x y : Nat) (ks : List Pr) : Pr :=
  if hasOp (3 - noOf op) (flat op ks) = true then leaf (3 - noOf op) else outOf op t n x y (keep (noOf op) (flat op ks))
def turn (t : ByteArray) (n : Int) (x y : Nat) : List Pr → Pr
  | [k] => if k.op = 1 ∨ k.op = 2 then leaf (3 - k.op) else if k.op = 10 then k.kids.headD (leaf 0) else node 10 t n x y [k]
  | _ => node 10 t n x y []
def finish (op : Int) (t : ByteArray) (n : Int) (x y : Nat) (ks : List Pr) : Pr :=
  if op = 10 then turn t n x y ks else if op = 8 ∨ op = 9 then glue op t n x y ks else node op t n x y []
mutual
def plain : Pr → Pr | node op t n x y k => finish op t n x y (plains k)
def plains : List Pr → List Pr | [] => [] | k :: l => plain k :: plains l
end
/-! ### keep -/
/-! ### flat -/
/-! ### plain: no larger, no deeper, may be -/
end Pr
end Go.Proofs.YtjkcooakddlppaaGreat
/- What is known: the document's beyond, walked. -/
namespace Go.Proofs.YtjkcooakddlppaaGreat
set_option linter.unusedVariables false
set_option linter.unusedSimpArgs false
set_option maxRecDepth 100000
open Go.RowKit
structure BySt (w : World) (X Z V : Array Value) (wr : World) : Prop where
  o1 : Own wr w.heap.size X 31
  o2 : Own wr (w.heap.size + 1) Z 28
  o3 : Own wr (w.heap.size + 1 + 1) V 28
  bel : Below w.heap.size w wr
theorem BySt.later {w wr w' : World} {X Z V : Array Value} (h : BySt w X Z V wr) (hb : Below wr.heap.size wr w') : BySt w X Z V w' :=
  ⟨h.o1.later hb, h.o2.later hb, h.o3.later hb, h.bel.trans (hb.mono h.bel.size)⟩
theorem BySt.put8 {w wr : World} {X Z : Array Value} {z0 z1 z2 z3 z4 z5 z6 z7 : Value} (h : BySt w X Z #[z0, z1, z2, z3, z4, z5, z6, z7] wr) (c0 c1 c2 c3 c4 c5 c6 c7 : Value) : BySt w X Z #[c0, c1, c2, c3, c4, c5, c6, c7] (st8 wr (w.heap.size + 1 + 1) c0 c1 c2 c3 c4 c5 c6 c7) := by
  have hf : ∀ {b : Nat} {c : Array Value} {t : TypeId}, Own wr b c t → b ≠ w.heap.size + 1 + 1 → Own (st8 wr (w.heap.size + 1 + 1) c0 c1 c2 c3 c4 c5 c6 c7) b c t := by
    intro b c t ho hb
    unfold st8
    exact ((((((((ho.setFar _ _ hb).setFar _ _ hb).setFar _ _ hb).setFar _ _ hb).setFar _ _ hb).setFar _ _ hb).setFar _ _ hb).setFar _ _ hb)
  exact ⟨hf h.o1 (by omega), hf h.o2 (by omega), st8_own h.o3 _ _ _ _ _ _ _ _, st8_below h.bel (by omega) _ _ _ _ _ _ _ _⟩
theorem BySt.put1 {w wr : World} {X Z : Array Value} {V : Nat → Int} (h : BySt w X Z (arr8 V) wr) {k : Nat} (hk : k < 8) (v : Int) : BySt w X Z (arr8 (fun j => if j = k then v else V j)) (wr.setCell ⟨w.heap.size + 1 + 1, k, none⟩ (.int .i64 v)) := by
  refine ⟨h.o1.setFar _ _ (by show w.heap.size ≠ w.heap.size + 1 + 1; omega), h.o2.setFar _ _ (by show w.heap.size + 1 ≠ w.heap.size + 1 + 1; omega), ?_, h.bel.setCell (by show w.heap.size ≤ w.heap.size + 1 + 1; omega) _⟩
  rw [← arr_set V hk v]
  exact h.o3.set k _
def mixV (B R : Nat → Int) (k : Nat) (j : Nat) : Int := if j < k then B j else R j
theorem mix_zero (B R : Nat → Int) : arr8 R = arr8 (mixV B R 0) := arr_congr fun j _ => by unfold mixV; rw [if_neg (by omega)]
theorem mix_whole (B R : Nat → Int) : arr8 (mixV B R 8) = arr8 B := arr_congr fun j h => by unfold mixV; rw [if_pos h]
theorem mix_put (B R : Nat → Int) {k : Nat} {v : Int} (hv : v = B k) : arr8 (fun j => if j = k then v else mixV B R k j) = arr8 (mixV B R (k + 1)) := arr_congr fun j _ => by
  unfold mixV
  by_cases e : j = k
  · subst e; rw [if_pos rfl, if_pos (by omega)]; exact hv
  · rw [if_neg e]
    by_cases h : j < k
    · rw [if_pos h, if_pos (by omega)]
    · rw [if_neg h, if_neg (by omega)]
theorem mix_skip (B R : Nat → Int) {k : Nat} (hv : R k = B k) : arr8 (mixV B R k) = arr8 (mixV B R (k + 1)) := arr_congr fun j _ => by
  unfold mixV
  by_cases e : j = k
  · subst e; rw [if_neg (by omega), if_pos (by omega)]; exact hv
  · by_cases h : j < k
    · rw [if_pos h, if_pos (by omega)]
    · rw [if_neg h, if_neg (by omega)]
theorem raw_take {l : List Fr} {k : Nat} {f : Fr} {id : ByteArray} (h : l[k]? = some f) : rawF (l.take (k + 1)) id = rawStep id (rawF (l.take k) id) f := by
  unfold rawF; rw [takeT h, List.foldl_append]; rfl
def ByRel1 (l : List Fr) (id : ByteArray) (len : Nat) (X : Array Value) (w : World) (iv : Value) (wr : World) : Prop :=
  ∃ k : Nat, k ≤ len ∧ iv = .int .i64 k ∧ Hid (BySt w X (arr8 zeroV) (arr8 (rawF (l.take k) id)) wr)
def ByRel2 (B R : Nat → Int) (X : Array Value) (w : World) (iv : Value) (wr : World) : Prop :=
  ∃ k : Nat, k ≤ 8 ∧ iv = .int .i64 k ∧ Hid (BySt w X (arr8 zeroV) (arr8 (mixV B R k)) wr)
theorem kn_star (A : Nat → Int) (v : Value) {k : Nat} (h : k < 8) : (knA A v)[k]? = some (.int .i64 (A k)) := by
  match k, h with
  | 0, _ | 1, _ | 2, _ | 3, _ | 4, _ | 5, _ | 6, _ | 7, _ => rfl
set_option maxRecDepth 100000 in
set_option maxHeartbeats 4000000 in
theorem beyond_calls (K : Kn) (id : ByteArray) (v : Value) (w : World) (hR : FrW w K.l v) :
    Calls Tryz.prog 128 #[knV K.star v, .string id] w fun e w' => e = .returned (vecV (beyB K id)) ∧ Below w.heap.size w w' := by
  obtain ⟨A, l⟩ := K
  obtain ⟨U, oa, cap, b, o, rfl, hr⟩ := hR
  simp only at hr ⊢
  have HR := Lib.hid hr
  have hcap := hr.len
  have hmax := hr.max
  unfold maxLen at hmax
  clear hr
  generalize hn : l.length = len at *
  have HN := Lib.hid hn
  clear hn
  have HBE := Lib.hid (show ∀ j, j < 8 → beyB ⟨A, l⟩ id j = if rawF l id j ≤ A j then 0 else rawF l id j from fun j hj => by unfold beyB; rw [if_pos hj])
  generalize beyB ⟨A, l⟩ id = B at *
  have I0 : BySt w (knA A (.slice oa len cap)) (arr8 zeroV) (arr8 (rawF (l.take 0) id)) (((w.alloc (.cells (knA A (.slice oa len cap)) 31)).alloc (.cells (arr8 zeroV) 28)).alloc (.cells (arr8 zeroV) 28)) :=
    ⟨((Own.new w _ _).alloc _).alloc _, (Own.newAt _ _ _ (by simp)).alloc _, Own.newAt _ _ _ (by simp), (((Below.refl _ _).alloc (Nat.le_refl _) _).alloc (by simp) _).alloc (by simp; omega) _⟩
  have HI0 := Lib.hid I0
  clear I0
  go_enter Tryz.func128, Tryz.ntmps128
  go_wp2_with fail
  go_loopw [6] (fun iv wr => ByRel1 l id len (knA A (.slice oa len cap)) w iv wr) (fun iv _ => len - (intOf iv).toNat)
  case atStart => exact ⟨0, Nat.zero_le _, rfl, HI0⟩
  case round =>
    clear HI0
    obtain ⟨k, hk, rfl, HP⟩ := hrel
    have l1 := HP.out.o1.cell
    have z1 := HP.out.o1.lt
    by_cases hlt : k < len
    · obtain ⟨f, hf⟩ : ∃ f, l[k]? = some f := ⟨_, List.getElem?_eq_getElem (by rw [HN.out]; exact hlt)⟩
      obtain ⟨rfl, hb0⟩ := HR.out.at0 (by rw [HN.out]; omega)
      obtain ⟨c0, c1, c2, c3, c4, c5, c6, c7, c8⟩ := fc_cells (w := wr) (fun j z hz => (HP.out.bel.cell (p := ⟨b, o + k * 9 + j, none⟩) hb0).trans (HR.out.cell k f hf j z hz))
      have htx := (HR.out.ids k f hf).later HP.out.bel (Nat.le_refl _)
      obtain ⟨ou, cu, hu⟩ := htx.val
      rw [hu] at c0 htx
      have C := Lib.hid (among_calls f.ids id _ wr htx)
      have zb := Nat.lt_of_lt_of_le hb0 HP.out.bel.size
      have HF := Lib.hid (raw_take (id := id) hf)
      have l3 := HP.out.o3.cell
      have z3 := HP.out.o3.lt
      have k0 : (0 : Int) ≤ (k : Int) := by omega
      have k1 : (k : Int) < (len : Int) := by omega
      clear htx hu hf
      cases ham : amongB f.ids id
      · rw [ham] at C
        have HS := Lib.hid (show rawF (l.take (k + 1)) id = rawF (l.take k) id by rw [HF.out, rawStep, if_neg (by rw [ham]; simp)])
        go_wp2_with (go_at_call 101; refine C.out.mono ?_; rintro e w2 ⟨rfl, rfl⟩)
        go_roundw
        case rel => exact ⟨k + 1, by omega, by go_num, by unfold Hid; rw [HS.out]; exact HP.out⟩
        case measure => simp [intOf]; omega
      · rw [ham] at C
        have HS := Lib.hid (show rawF (l.take (k + 1)) id = maxV (rawF (l.take k) id) f.v by rw [HF.out, rawStep, if_pos ham])
        have M := Lib.hid (refMax_calls (rawF (l.take k) id) f.v wr.drew)
        clear HF ham
        go_wp2_with (go_at_call 101; refine C.out.mono ?_; rintro e w2 ⟨rfl, rfl⟩)
        refine region_still_tail 7 (by kernel_rfl) (by kernel_rfl) ?_
        simp only [List.take_succ_cons, List.take_zero, List.drop_succ_cons, List.drop_zero]
        repeat still_step
        refine wpStill_nil ?_
        clear c0 c1 c2 c3 c4 c5 c6 c7 c8 l1 l3
        go_wp2_with fail
        refine M.out.mono ?_
        rintro e w2 ⟨rfl, hb2⟩
        have hb3 : Below wr.heap.size wr w2 := (Below.refl wr.heap.size wr).drew.trans hb2
        have HP2 := Lib.hid (HP.out.later hb3)
        clear hb2 hb3 HP
        have l3 := HP2.out.o3.cell
        have f3 := HP2.out.o3.free
        have z3 := HP2.out.o3.lt
        have HP3 := Lib.hid (HP2.out.put8 (.int .i64 (maxV (rawF (l.take k) id) f.v 0)) (.int .i64 (maxV (rawF (l.take k) id) f.v 1)) (.int .i64 (maxV (rawF (l.take k) id) f.v 2)) (.int .i64 (maxV (rawF (l.take k) id) f.v 3)) (.int .i64 (maxV (rawF (l.take k) id) f.v 4)) (.int .i64 (maxV (rawF (l.take k) id) f.v 5)) (.int .i64 (maxV (rawF (l.take k) id) f.v 6)) (.int .i64 (maxV (rawF (l.take k) id) f.v 7)))
        rw [← HS.out] at HP3
        go_wp2_with fail
        clear l3 f3 z3
        go_roundw
        case rel => exact ⟨k + 1, by omega, by go_num, by rw [HS.out] at HP3 ⊢; exact HP3⟩
        case measure => simp [intOf]; omega
    · have e : len = k := by omega
      subst e
      have h1 := HP.out
      rw [show l.take len = l from List.take_of_length_le (by rw [HN.out]; omega)] at h1
      rw [mix_zero B (rawF l id)] at h1
      have HP := Lib.hid h1
      have HPx := HP
      clear h1
      go_wp2_with fail
      clear l1 z1
      go_loopw [7] (fun iv wr => ByRel2 B (rawF l id) (knA A (.slice oa len cap)) w iv wr) (fun iv _ => 8 - (intOf iv).toNat)
      case atStart => exact ⟨0, by omega, rfl, HPx⟩
      case round =>
        clear HP HPx
        obtain ⟨j, hj, rfl, HP⟩ := hrel
        by_cases hjt : j < 8
        · have LA := fun dd os => (HP.out.o1.has.regrown dd os j).trans (kn_star A _ hjt)
          have LB := fun dd os => (HP.out.o3.has.regrown dd os j).trans (arr_get (mixV B (rawF l id) j) hjt)
          have zA := HP.out.o1.lt
          have zB := HP.out.o3.lt
          have k0 : (0 : Int) ≤ (j : Int) := by omega
          have k1 : (j : Int) < 8 := by omega
          have hm : mixV B (rawF l id) j j = rawF l id j := by unfold mixV; rw [if_neg (by omega)]
          rw [hm] at LB
          by_cases h : rawF l id j ≤ A j
          · have g : decide (rawF l id j ≤ A j) = true := decide_eq_true h
            have HV := Lib.hid (show (0 : Int) = B j by rw [HBE.out j hjt, if_pos h])
            go_wp2_with fail
            refine wp_region_quiet_below (by kernel_rfl) (by kernel_rfl) ?_
            repeat (first | go_big_quiet_step (fail) | quiet_step (fail))
            refine wpQuiet_nil ?_
            intro w7 hw'
            have hb' := Lib.hid (regrown_below hw')
            clear hw'
            clear LA LB
            have HP7 := Lib.hid (HP.out.later hb'.out)
            have HP8 := HP7.out.put1 hjt 0
            rw [mix_put _ _ HV.out] at HP8
            have HP9 := Lib.hid HP8
            clear HP8
            have c7 := (HP7.out.o3.cell j).trans (arr_get (mixV B (rawF l id) j) hjt)
            have f7 := HP7.out.o3.free j
            have z7 := HP7.out.o3.lt
            go_wp2_with fail
            go_roundw
            case rel => exact ⟨j + 1, by omega, by go_num, HP9⟩
            case measure => simp [intOf]; omega
          · have g : decide (rawF l id j ≤ A j) = false := decide_eq_false h
            have HV := Lib.hid (show rawF l id j = B j by rw [HBE.out j hjt, if_neg h])
            go_wp2_with fail
            refine wp_region_quiet_below (by kernel_rfl) (by kernel_rfl) ?_
            repeat (first | go_big_quiet_step (fail) | quiet_step (fail))
            refine wpQuiet_nil ?_
            intro w7 hw'
            have hb' := Lib.hid (regrown_below hw')
            clear hw'
            clear LA LB
            have HP7 := HP.out.later hb'.out
            rw [mix_skip _ _ HV.out] at HP7
            have HP9 := Lib.hid HP7
            clear HP7
            go_wp2_with fail
            go_roundw
            case rel => exact ⟨j + 1, by omega, by go_num, HP9⟩
            case measure => simp [intOf]; omega
        · have e : j = 8 := by omega
          subst e
          have h1 := HP.out
          rw [mix_whole] at h1
          have HP := Lib.hid h1
          clear h1
          have l2 := HP.out.o2.cell
          have f2 := HP.out.o2.free
          have z2 := HP.out.o2.lt
          have l3 := HP.out.o3.cell
          have z3 := HP.out.o3.lt
          go_wp2_with fail
          have key := And.intro (st8_own HP.out.o2 (.int .i64 (B 0)) (.int .i64 (B 1)) (.int .i64 (B 2)) (.int .i64 (B 3)) (.int .i64 (B 4)) (.int .i64 (B 5)) (.int .i64 (B 6)) (.int .i64 (B 7))) (st8_below (b := w.heap.size + 1) HP.out.bel (by omega) (.int .i64 (B 0)) (.int .i64 (B 1)) (.int .i64 (B 2)) (.int .i64 (B 3)) (.int .i64 (B 4)) (.int .i64 (B 5)) (.int .i64 (B 6)) (.int .i64 (B 7)))
          clear l2 f2 z2 l3 z3
          unfold st8 at key
          revert key
          generalize World.setCell (World.setCell (World.setCell (World.setCell (World.setCell (World.setCell (World.setCell (World.setCell _ _ _) _ _) _ _) _ _) _ _) _ _) _ _) _ _ = WW
          rintro ⟨of, bf⟩
          have lf := of.cell
          refine bodyPost_ret (v := vecV B) (by simp [results, Tryz.results128, go_sem, lf]) rfl ⟨rfl, bf⟩
end Go.Proofs.YtjkcooakddlppaaGreat
/- Lists of items: what the laws' walks carry. No walk. -/
namespace Go.Proofs.YtjkcooakddlppaaGreat
set_option linter.unusedVariables false
set_option linter.unusedSimpArgs false
set_option maxRecDepth 100000
open Go.RowKit
theorem Row.val {sz : Nat} {f : Itm → List Value} {w : World} {l : List Itm} {v : Value} (h : Row sz f w l v) : ∃ oa cap, v = .slice oa l.length cap := by
  obtain ⟨oa, cap, _, _, e, _⟩ := h
  exact ⟨oa, cap, e⟩
theorem Row.alloc {sz : Nat} {f : Itm → List Value} {w : World} {l : List Itm} {v : Value} (h : Row sz f w l v) (o : Obj) : Row sz f (w.alloc o) l v := h.later ((Below.refl _ _).alloc (Nat.le_refl _) _)
theorem Row.drew {sz : Nat} {f : Itm → List Value} {w : World} {l : List Itm} {v : Value} (h : Row sz f w l v) : Row sz f w.drew l v := h.later (Below.refl _ _).drew
theorem Row.oks {sz : Nat} {f : Itm → List Value} {w : World} {l : List Itm} {v : Value} (h : Row sz f w l v) : ∀ i ∈ l, i.id.size ≤ maxLen ∧ i.kd.size ≤ maxLen := by
  obtain ⟨_, _, _, _, _, h⟩ := h
  exact h.ok
abbrev rA (i : Itm) : Array Value := #[.string i.id, .int .i64 i.r, .int .i64 i.c, .int .i64 i.st, .string i.kd, .int .i64 i.num, .float .f64 i.x, .float .f64 i.y, .bool i.d]
abbrev iA (i : Itm) : Array Value := #[.string i.id, .int .i64 i.r, .int .i64 i.c, .int .i64 i.st, .string i.kd, .int .i64 i.num, .complex .f64 i.x i.y, .bool i.d]
theorem row_oneI (w : World) (z : Itm) (t : TypeId) (hz : z.id.size ≤ maxLen ∧ z.kd.size ≤ maxLen) : Row 8 ic (w.alloc (.cells (iA z) t)) [z] (.slice (some ⟨w.heap.size, 0, none⟩) 1 1) := by
  refine ⟨_, 1, w.heap.size, 0, rfl, Nat.le_refl _, by decide, fun _ => ⟨rfl, by simp⟩, fun k i hk j u hu => ?_, fun i hi => by simp at hi; subst hi; exact hz⟩
  match k, hk with
  | 0, hk =>
    simp at hk; subst hk
    have := (Has.new w (iA z) t).cell j
    rw [Nat.zero_mul, Nat.zero_add, this]
    simpa using hu
def mayLB (l : List Itm) : Bool := l.all mayT && risesB l
theorem sameL_self {f : Itm → Itm → Bool} : ∀ {l : List Itm}, (∀ i ∈ l, f i i = true) → sameL f l l = true
  | [], _ => rfl
  | a :: l, h => by
    rw [sameL, h a (by simp), sameL_self fun i hi => h i (by simp [hi])]; rfl
end Go.Proofs.YtjkcooakddlppaaGreat
/- What is known: the document's Alike, walked. -/
namespace Go.Proofs.YtjkcooakddlppaaGreat
set_option linter.unusedVariables false
set_option linter.unusedSimpArgs false
set_option maxRecDepth 100000
open Go.RowKit
theorem eqIds_len : ∀ {l m : List ByteArray}, l.length ≠ m.length → eqIds l m = false
  | [], [], h => absurd rfl h
  | [], _ :: _, _ => rfl
  | _ :: _, [], _ => rfl
  | a :: l, b :: m, h => by
    simp only [eqIds, Bool.and_eq_false_iff]
    exact .inr (eqIds_len fun e => h (by simp [e]))
theorem eqIds_iff : ∀ {l m : List ByteArray}, l.length = m.length → (eqIds l m = true ↔ ∀ (j : Nat) (a b : ByteArray), l[j]? = some a → m[j]? = some b → (a.toList == b.toList) = true)
  | [], [], _ => by simp [eqIds]
  | [], _ :: _, h => by simp at h
  | _ :: _, [], h => by simp at h
  | a :: l, b :: m, h => by
    simp only [eqIds, Bool.and_eq_true]
    rw [eqIds_iff (by simpa using h)]
    constructor
    · rintro ⟨h1, h2⟩ j x y hx hy
      cases j with
      | zero => simp at hx hy; subst hx hy; exact h1
      | succ j => exact h2 j x y (by simpa using hx) (by simpa using hy)
    · intro h
      exact ⟨h 0 a b rfl rfl, fun j x y hx hy => h (j + 1) x y (by simpa using hx) (by simpa using hy)⟩
theorem eqIds_at {l m : List ByteArray} (hl : l.length = m.length) {j : Nat} {a b : ByteArray} (ha : l[j]? = some a) (hb : m[j]? = some b) (h : (a.toList == b.toList) = false) : eqIds l m = false := by
  cases e : eqIds l m with
  | false => rfl
  | true => rw [(eqIds_iff hl).1 e j a b ha hb] at h; cases h
theorem eqFrs_len : ∀ {l m : List Fr}, l.length ≠ m.length → eqFrs l m = false
  | [], [], h => absurd rfl h
  | [], _ :: _, _ => rfl
  | _ :: _, [], _ => rfl
  | a :: l, b :: m, h => by
    simp only [eqFrs, Bool.and_eq_false_iff]
    exact .inr (eqFrs_len fun e => h (by simp [e]))
theorem eqFrs_iff : ∀ {l m : List Fr}, l.length = m.length → (eqFrs l m = true ↔ ∀ (j : Nat) (a b : Fr), l[j]? = some a → m[j]? = some b → eqFr a b = true)
  | [], [], _ => by simp [eqFrs]
  | [], _ :: _, h => by simp at h
  | _ :: _, [], h => by simp at h
  | a :: l, b :: m, h => by
    simp only [eqFrs, Bool.and_eq_true]
    rw [eqFrs_iff (by simpa using h)]
    constructor
    · rintro ⟨h1, h2⟩ j x y hx hy
      cases j with
      | zero => simp at hx hy; subst hx hy; exact h1
      | succ j => exact h2 j x y (by simpa using hx) (by simpa using hy)
    · intro h
      exact ⟨h 0 a b rfl rfl, fun j x y hx hy => h (j + 1) x y (by simpa using hx) (by simpa using hy)⟩
theorem eqFrs_at {l m : List Fr} (hl : l.length = m.length) {j : Nat} {a b : Fr} (ha : l[j]? = some a) (hb : m[j]? = some b) (h : eqFr a b = false) : eqFrs l m = false := by
  cases e : eqFrs l m with
  | false => rfl
  | true => rw [(eqFrs_iff hl).1 e j a b ha hb] at h; cases h
structure AlS (w : World) (X Y : Array Value) (wr : World) : Prop where
  o1 : Has wr w.heap.size X
  o2 : Has wr (w.heap.size + 1) Y
  bel : Below w.heap.size w wr
theorem AlS.later {w wr w' : World} {X Y : Array Value} (h : AlS w X Y wr) (hb : Below wr.heap.size wr w') : AlS w X Y w' :=
  ⟨h.o1.below hb h.o1.lt, h.o2.below hb h.o2.lt, h.bel.trans (hb.mono h.bel.size)⟩
def AlRel (l m : List Fr) (len : Nat) (X Y : Array Value) (w : World) (iv : Value) (wr : World) : Prop :=
  ∃ k : Nat, k ≤ len ∧ iv = .int .i64 k ∧ Hid (∀ j a b, j < k → l[j]? = some a → m[j]? = some b → eqFr a b = true) ∧ Hid (AlS w X Y wr)
def AlRel2 (l m : List ByteArray) (len : Nat) (X Y : Array Value) (w : World) (iv : Value) (wr : World) : Prop :=
  ∃ k : Nat, k ≤ len ∧ iv = .int .i64 k ∧ Hid (∀ j a b, j < k → l[j]? = some a → m[j]? = some b → (a.toList == b.toList) = true) ∧ Hid (AlS w X Y wr)
set_option maxRecDepth 100000 in
set_option maxHeartbeats 8000000 in
theorem alike_calls (a b : Kn) (v v' : Value) (w : World) (hR : FrW w a.l v) (hM : FrW w b.l v') :
    Calls Tryz.prog 52 #[knV a.star v, knV b.star v'] w fun e w' => e = .returned (.bool (alikeK a b)) ∧ Below w.heap.size w w' := by
  obtain ⟨A, l⟩ := a
  obtain ⟨B, m⟩ := b
  simp only at hR hM ⊢
  obtain ⟨U, oa, cap, b0, o, rfl, hr⟩ := hR
  obtain ⟨U', oa', cap', b0', o', rfl, hr'⟩ := hM
  have HR := Lib.hid hr
  have HR' := Lib.hid hr'
  have hcap := hr.len
  have hmax := hr.max
  have hcap' := hr'.len
  have hmax' := hr'.max
  unfold maxLen at hmax hmax'
  clear hr hr'
  have HE := Lib.hid (show alikeK ⟨A, l⟩ ⟨B, m⟩ = (eqV A B && eqFrs l m) from rfl)
  generalize alikeK ⟨A, l⟩ ⟨B, m⟩ = res at *
  generalize hn : l.length = len at *
  have HN := Lib.hid hn
  generalize hn' : m.length = len' at *
  have HN' := Lib.hid hn'
  clear hn hn'
  have I0 : AlS w (knA A (.slice oa len cap)) (knA B (.slice oa' len' cap')) ((w.alloc (.cells (knA A (.slice oa len cap)) 31)).alloc (.cells (knA B (.slice oa' len' cap')) 31)) :=
    ⟨(Has.new w _ _).alloc _, (Own.newAt _ _ _ (by simp)).has, ((Below.refl _ _).alloc (Nat.le_refl _) _).alloc (by simp) _⟩
  have HI0 := Lib.hid I0
  clear I0
  have hq := fun w' => show (Op.equalIn 10000 28 (.agg #[.int .i64 (A 0), .int .i64 (A 1), .int .i64 (A 2), .int .i64 (A 3), .int .i64 (A 4), .int .i64 (A 5), .int .i64 (A 6), .int .i64 (A 7)]) (.agg #[.int .i64 (B 0), .int .i64 (B 1), .int .i64 (B 2), .int .i64 (B 3), .int .i64 (B 4), .int .i64 (B 5), .int .i64 (B 6), .int .i64 (B 7)])).run Tryz.prog w' = .ok (eqV A B) w' from eqVec7 A B w'
  cases hqq : eqV A B
  · rw [hqq] at hq
    have E := Lib.hid (show res = false by rw [HE.out, hqq]; rfl)
    clear hqq
    go_enter Tryz.func52, Tryz.ntmps52
    go_wp2_with fail
    go_ret
    exact ⟨ret_bool E.out.symm, HI0.out.bel⟩
  rw [hqq] at hq
  have HE2 := Lib.hid (show res = eqFrs l m by rw [HE.out, hqq]; rfl)
  clear hqq HE
  by_cases hne : len = len'
  case neg =>
    have E := Lib.hid (show res = false by rw [HE2.out]; exact eqFrs_len (by rw [HN.out, HN'.out]; exact hne))
    have hne1 : ((len : Int) == (len' : Int)) = false := by simp; omega
    have hne2 : ((len : Int) != (len' : Int)) = true := by simp; omega
    go_enter Tryz.func52, Tryz.ntmps52
    go_wp2_with fail
    go_ret
    exact ⟨ret_bool E.out.symm, HI0.out.bel⟩
  subst hne
  go_enter Tryz.func52, Tryz.ntmps52
  go_wp2_with fail
  clear hq
  go_loopw [5] (fun iv wr => AlRel l m len (knA A (.slice oa len cap)) (knA B (.slice oa' len cap')) w iv wr) (fun iv _ => len - (intOf iv).toNat)
  case atStart => exact ⟨0, Nat.zero_le _, rfl, fun j a b hj => absurd hj (by omega), HI0⟩
  case round =>
    clear HI0
    obtain ⟨k, hk, rfl, HA, HS⟩ := hrel
    by_cases hlt : k < len
    · obtain ⟨f, hf⟩ : ∃ f, l[k]? = some f := ⟨_, List.getElem?_eq_getElem (by rw [HN.out]; exact hlt)⟩
      obtain ⟨g, hg⟩ : ∃ g, m[k]? = some g := ⟨_, List.getElem?_eq_getElem (by rw [HN'.out]; exact hlt)⟩
      obtain ⟨rfl, hb0⟩ := HR.out.at0 (by rw [HN.out]; omega)
      obtain ⟨rfl, hb0'⟩ := HR'.out.at0 (by rw [HN'.out]; omega)
      obtain ⟨ou, cu, bu, qu, hu, ht⟩ := HR.out.ids k f hf
      obtain ⟨ou', cu', bu', qu', hu', ht'⟩ := HR'.out.ids k g hg
      obtain ⟨c0, c1, c2, c3, c4, c5, c6, c7, c8⟩ := fc_cells (w := wr) (fun j z hz => (HS.out.bel.cell (p := ⟨b0, o + k * 9 + j, none⟩) hb0).trans (HR.out.cell k f hf j z hz))
      obtain ⟨d0, d1, d2, d3, d4, d5, d6, d7, d8⟩ := fc_cells (w := wr) (fun j z hz => (HS.out.bel.cell (p := ⟨b0', o' + k * 9 + j, none⟩) hb0').trans (HR'.out.cell k g hg j z hz))
      rw [hu] at c0
      rw [hu'] at d0
      have HF := Lib.hid hf
      have HG := Lib.hid hg
      have HU := Lib.hid hu
      have HU' := Lib.hid hu'
      have HT := Lib.hid ht
      have HT' := Lib.hid ht'
      have hcu := ht.len
      have hmu := ht.max
      have hcu' := ht'.len
      have hmu' := ht'.max
      unfold maxLen at hmu hmu'
      clear hf hg hu hu' ht ht'
      generalize hnf : f.ids.length = nf at *
      have HNF := Lib.hid hnf
      generalize hng : g.ids.length = ng at *
      have HNG := Lib.hid hng
      clear hnf hng
      have LA := fun dd os q => HS.out.o1.regrown dd os q
      have LB := fun dd os q => HS.out.o2.regrown dd os q
      have r0 := fun dd os => cell_regrown c0 dd os
      have s0 := fun dd os => cell_regrown d0 dd os
      have r1 := fun dd os => cell_regrown c1 dd os
      have s1 := fun dd os => cell_regrown d1 dd os
      have r2 := fun dd os => cell_regrown c2 dd os
      have s2 := fun dd os => cell_regrown d2 dd os
      have r3 := fun dd os => cell_regrown c3 dd os
      have s3 := fun dd os => cell_regrown d3 dd os
      have r4 := fun dd os => cell_regrown c4 dd os
      have s4 := fun dd os => cell_regrown d4 dd os
      have r5 := fun dd os => cell_regrown c5 dd os
      have s5 := fun dd os => cell_regrown d5 dd os
      have r6 := fun dd os => cell_regrown c6 dd os
      have s6 := fun dd os => cell_regrown d6 dd os
      have r7 := fun dd os => cell_regrown c7 dd os
      have s7 := fun dd os => cell_regrown d7 dd os
      have r8 := fun dd os => cell_regrown c8 dd os
      have s8 := fun dd os => cell_regrown d8 dd os
      clear c0 c1 c2 c3 c4 c5 c6 c7 c8 d0 d1 d2 d3 d4 d5 d6 d7 d8
      have l1 := HS.out.o1.cell
      have l2 := HS.out.o2.cell
      have z1 := HS.out.o1.lt
      have z2 := HS.out.o2.lt
      have k0 : (0 : Int) ≤ (k : Int) := by omega
      have k1 : (k : Int) < (len : Int) := by omega
      have hq := fun w' => show (Op.equalIn 10000 28 (.agg #[.int .i64 (f.v 0), .int .i64 (f.v 1), .int .i64 (f.v 2), .int .i64 (f.v 3), .int .i64 (f.v 4), .int .i64 (f.v 5), .int .i64 (f.v 6), .int .i64 (f.v 7)]) (.agg #[.int .i64 (g.v 0), .int .i64 (g.v 1), .int .i64 (g.v 2), .int .i64 (g.v 3), .int .i64 (g.v 4), .int .i64 (g.v 5), .int .i64 (g.v 6), .int .i64 (g.v 7)])).run Tryz.prog w' = .ok (eqV f.v g.v) w' from eqVec7 f.v g.v w'
      cases hqq : eqV f.v g.v
      · rw [hqq] at hq
        have E := Lib.hid (show res = false by rw [HE2.out]; exact eqFrs_at (by rw [HN.out, HN'.out]) HF.out HG.out (by unfold eqFr; rw [hqq]; rfl))
        clear hqq
        go_wp2_with fail
        refine wp_region_quiet_below (by kernel_rfl) (by kernel_rfl) ?_
        repeat (first | go_big_quiet_step (fail) | quiet_step (fail))
        refine wpQuiet_nil ?_
        intro w7 hw'
        have hb' := Lib.hid (regrown_below hw')
        clear hw'
        clear r0 s0 r1 s1 r2 s2 r3 s3 r4 s4 r5 s5 r6 s6 r7 s7 r8 s8 LA LB hq l1 l2
        go_wp2_with fail
        go_ret
        exact ⟨ret_bool E.out.symm, HS.out.bel.trans (hb'.out.mono HS.out.bel.size)⟩
      rw [hqq] at hq
      by_cases hne : nf = ng
      case neg =>
        have E := Lib.hid (show res = false by rw [HE2.out]; exact eqFrs_at (by rw [HN.out, HN'.out]) HF.out HG.out (by unfold eqFr; rw [eqIds_len (by rw [HNF.out, HNG.out]; exact hne)]; simp))
        have hne1 : ((nf : Int) == (ng : Int)) = false := by simp; omega
        have hne2 : ((nf : Int) != (ng : Int)) = true := by simp; omega
        clear hqq
        go_wp2_with fail
        refine wp_region_quiet_below (by kernel_rfl) (by kernel_rfl) ?_
        repeat (first | go_big_quiet_step (fail) | quiet_step (fail))
        refine wpQuiet_nil ?_
        intro w7 hw'
        have hb' := Lib.hid (regrown_below hw')
        clear hw'
        clear r0 s0 r1 s1 r2 s2 r3 s3 r4 s4 r5 s5 r6 s6 r7 s7 r8 s8 LA LB hq l1 l2
        go_wp2_with fail
        go_ret
        exact ⟨ret_bool E.out.symm, HS.out.bel.trans (hb'.out.mono HS.out.bel.size)⟩
      subst hne
      have HQ := Lib.hid hqq
      clear hqq
      go_wp2_with fail
      refine wp_region_quiet_below (by kernel_rfl) (by kernel_rfl) ?_
      repeat (first | go_big_quiet_step (fail) | quiet_step (fail))
      refine wpQuiet_nil ?_
      intro w7 hw'
      have hb' := Lib.hid (regrown_below hw')
      clear hw'
      clear r0 s0 r1 s1 r2 s2 r3 s3 r4 s4 r5 s5 r6 s6 r7 s7 r8 s8 LA LB hq l1 l2 z1 z2
      have HS7 := Lib.hid (HS.out.later hb'.out)
      clear hb' HS
      go_wp2_with fail
      go_loopw [6] (fun iv wr => AlRel2 f.ids g.ids nf (knA A (.slice (some ⟨b0, o, none⟩) len cap)) (knA B (.slice (some ⟨b0', o', none⟩) len cap')) w iv wr) (fun iv _ => nf - (intOf iv).toNat)
      case atStart => exact ⟨0, Nat.zero_le _, rfl, fun j a b hj => absurd hj (by omega), HS7⟩
      case round =>
        clear HS7
        obtain ⟨j, hj, rfl, HB, HS⟩ := hrel
        have l1 := HS.out.o1.cell
        have l2 := HS.out.o2.cell
        have z1 := HS.out.o1.lt
        have z2 := HS.out.o2.lt
        obtain ⟨c0, _⟩ := fc_cells (w := wr) (fun j z hz => (HS.out.bel.cell (p := ⟨b0, o + k * 9 + j, none⟩) hb0).trans (HR.out.cell k f HF.out j z hz))
        obtain ⟨d0, _⟩ := fc_cells (w := wr) (fun j z hz => (HS.out.bel.cell (p := ⟨b0', o' + k * 9 + j, none⟩) hb0').trans (HR'.out.cell k g HG.out j z hz))
        rw [HU.out] at c0
        rw [HU'.out] at d0
        by_cases hjt : j < nf
        · obtain ⟨x, hx⟩ : ∃ x, f.ids[j]? = some x := ⟨_, List.getElem?_eq_getElem (by rw [HNF.out]; exact hjt)⟩
          obtain ⟨y, hy⟩ : ∃ y, g.ids[j]? = some y := ⟨_, List.getElem?_eq_getElem (by rw [HNG.out]; exact hjt)⟩
          obtain ⟨rfl, hb1⟩ := HT.out.at0 (by rw [HNF.out]; omega)
          obtain ⟨rfl, hb1'⟩ := HT'.out.at0 (by rw [HNG.out]; omega)
          have x0 := (HS.out.bel.cell (p := ⟨bu, qu + j, none⟩) hb1).trans (HT.out.cell j x hx)
          have y0 := (HS.out.bel.cell (p := ⟨bu', qu' + j, none⟩) hb1').trans (HT'.out.cell j y hy)
          have r0 := fun dd os => cell_regrown c0 dd os
          have s0 := fun dd os => cell_regrown d0 dd os
          have rx := fun dd os => cell_regrown x0 dd os
          have ry := fun dd os => cell_regrown y0 dd os
          have LA := fun dd os q => HS.out.o1.regrown dd os q
          have LB := fun dd os q => HS.out.o2.regrown dd os q
          have j0 : (0 : Int) ≤ (j : Int) := by omega
          have j1 : (j : Int) < (nf : Int) := by omega
          have HX := Lib.hid hx
          have HY := Lib.hid hy
          clear hx hy x0 y0
          cases ht : (x.toList == y.toList)
          · have E := Lib.hid (show res = false by rw [HE2.out]; exact eqFrs_at (by rw [HN.out, HN'.out]) HF.out HG.out (by unfold eqFr; rw [eqIds_at (by rw [HNF.out, HNG.out]) HX.out HY.out ht]; simp))
            go_wp2_with fail
            refine wp_region_quiet_below (by kernel_rfl) (by kernel_rfl) ?_
            repeat (first | go_big_quiet_step (fail) | quiet_step (fail))
            refine wpQuiet_nil ?_
            intro w7 hw'
            have hb' := Lib.hid (regrown_below hw')
            clear hw'
            clear r0 s0 rx ry LA LB l1 l2
            go_wp2_with fail
            go_ret
            exact ⟨ret_bool E.out.symm, HS.out.bel.trans (hb'.out.mono HS.out.bel.size)⟩
          · have HB2 := Lib.hid (show ∀ q a b, q < j + 1 → f.ids[q]? = some a → g.ids[q]? = some b → (a.toList == b.toList) = true from fun q a b hq ha hb => by
              by_cases e : q = j
              · subst e; rw [HX.out] at ha; rw [HY.out] at hb; cases ha; cases hb; exact ht
              · exact HB.out q a b (by omega) ha hb)
            go_wp2_with fail
            refine wp_region_quiet_below (by kernel_rfl) (by kernel_rfl) ?_
            repeat (first | go_big_quiet_step (fail) | quiet_step (fail))
            refine wpQuiet_nil ?_
            intro w7 hw'
            have hb' := Lib.hid (regrown_below hw')
            clear hw'
            clear r0 s0 rx ry LA LB l1 l2
            have HS7 := Lib.hid (HS.out.later hb'.out)
            go_wp2_with fail
            go_roundw
            case rel => exact ⟨j + 1, by omega, by go_num, HB2, HS7⟩
            case measure => simp [intOf]; omega
        · have e : nf = j := by omega
          subst e
          have HA2 := Lib.hid (show ∀ q a b, q < k + 1 → l[q]? = some a → m[q]? = some b → eqFr a b = true from fun q a b hq ha hb => by
            by_cases e : q = k
            · subst e
              rw [HF.out] at ha; rw [HG.out] at hb; cases ha; cases hb
              unfold eqFr
              rw [HQ.out, (eqIds_iff (by rw [HNF.out, HNG.out])).2 fun j x y hx hy => HB.out j x y (by have := posA hx; rw [HNF.out] at this; exact this) hx hy]; rfl
            · exact HA.out q a b (by omega) ha hb)
          go_wp2_with fail
          go_roundw
          case rel => exact ⟨k + 1, by omega, by go_num, HA2, HS⟩
          case measure => simp [intOf]; omega
    · have e : len = k := by omega
      subst e
      have E := Lib.hid (show res = true by
        rw [HE2.out]
        exact (eqFrs_iff (by rw [HN.out, HN'.out])).2 fun j x y hx hy => HA.out j x y (by have := posA hx; rw [HN.out] at this; exact this) hx hy)
      have l1 := HS.out.o1.cell
      have l2 := HS.out.o2.cell
      have z1 := HS.out.o1.lt
      have z2 := HS.out.o2.lt
      go_wp2_with fail
      go_ret
      exact ⟨ret_bool E.out.symm, HS.out.bel⟩
end Go.Proofs.YtjkcooakddlppaaGreat
