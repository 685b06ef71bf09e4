/- turn: the code's walk. -/
import Derived.Test.YtgfepbcolcmdgaaMerge
namespace Go.Proofs.Ytgfepbcolcmdgaa
open Go.RowKit

theorem low_s3 {B : Nat} {w X : World} {q : Pr} {v : Value} (hb : Below w.heap.size w X) (hl : Lies 5 pc (fun b => B ≤ b ∧ b < w.heap.size) w q v) : Lies 5 pc (fun b => B ≤ b ∧ b < X.heap.size) X q v :=
  hl.mono (fun b o hS => hb.cell (p := ⟨b, o, none⟩) hS.2) (fun b hS => ⟨hS.1, Nat.lt_of_lt_of_le hS.2 hb.size⟩)

attribute [local go_sem ↓] Go.wp_at_zero Go.wp_at_succ
set_option maxRecDepth 100000 in
set_option maxHeartbeats 8000000 in
theorem turn_calls (t : ByteArray) (n : Int) (x y : Nat) (ks : List Pr) (B : Nat) (v : Value) (w : World) (hB : B ≤ w.heap.size) (hL : Lies 5 pc (fun b => B ≤ b ∧ b < w.heap.size) w (.node 10 t n x y ks) v) :
    Calls Try.prog 29 #[.agg #[.int .i64 10, .string t, .int .i64 n, .complex .f64 x y, v]] w (MergeOut (Pr.turnC t n x y ks) B w) := by
  obtain ⟨oa, cap, rfl⟩ := lies_val hL
  simp only [Pr.kids_node] at *
  match hks : ks with
  | [] =>
    have HL := Lib.hid hL
    have EQ := Lib.hid (show Pr.turnC t n x y [] = .node 10 t n x y [] by simp [Pr.turnC])
    simp only [List.length_nil] at *
    clear hL
    go_enter Try.func29, Try.ntmps29
    go_wp2_with fail
    generalize hW : World.alloc (World.alloc w _) _ = WW
    have of : Own WW (w.heap.size + 1) #[.int .i64 10, .string t, .int .i64 n, .complex .f64 x y, .slice oa 0 cap] 33 := by rw [← hW]; exact Own.newAt _ _ _ (by simp)
    have bf : Below w.heap.size w WW := by rw [← hW]; exact ((Below.refl _ _).alloc (Nat.le_refl _) _).alloc (by simp) _
    have lf := of.cell
    exact bodyPost_ret (v := .agg #[.int .i64 10, .string t, .int .i64 n, .complex .f64 x y, .slice oa 0 cap]) (by simp [results, Try.results29, go_sem, lf]) rfl (mergeOut_of EQ.out ⟨(.slice oa 0 cap), rfl, low_s3 bf HL.out, bf⟩)
  | k :: rest =>
    obtain ⟨_, _, b, o, V, e1, _, hl, hc, hn, hcell, hrec⟩ := lies_slice hL
    simp only [Pr.kids_node] at e1 hl hn hcell hrec
    cases e1
    unfold maxLen at hc
    have HL := Lib.hid hL
    obtain ⟨rfl, hS⟩ := hn (by simp)
    obtain ⟨oq, cq, hV⟩ := lies_val (hrec 0 k rfl)
    obtain ⟨c0, c1, c2, c3, c4⟩ := pc_cells (w := w) (fun i u hu => hcell 0 k rfl i u hu)
    have Lk := hrec 0 k rfl
    rw [hV] at c4 Lk
    have zb := hS.2
    simp only [Nat.zero_mul, Nat.zero_add, Nat.add_zero] at c0 c1 c2 c3 c4
    have HLk := Lib.hid Lk
    clear hcell hrec hn Lk hS hV hL
    generalize hlen : (k :: rest).length = len at *
    have h0 : 0 < len := by rw [← hlen]; simp
    have h00 : ((len : Int) == 0) = false := by rw [beq_eq_false_iff_ne]; omega
    clear hlen
    by_cases h1 : k.op = 1
    · have EQ := Lib.hid (show Pr.turnC t n x y (k :: rest) = .leaf 2 by simp [Pr.turnC, h1])
      go_enter Try.func29, Try.ntmps29
      go_wp2_with fail
      generalize hW : World.alloc (World.alloc (World.alloc w _) _) _ = WW
      have of : Own WW (w.heap.size + 1) #[.int .i64 2, .string ⟨#[]⟩, .int .i64 0, .complex .f64 0 0, .slice none 0 0] 33 := by rw [← hW]; exact (Own.newAt _ _ _ (by simp)).alloc _
      have bf : Below w.heap.size w WW := by rw [← hW]; exact (((Below.refl _ _).alloc (Nat.le_refl _) _).alloc (by simp) _).alloc (by simp; omega) _
      have lf := of.cell
      exact bodyPost_ret (v := .agg #[.int .i64 2, .string ⟨#[]⟩, .int .i64 0, .complex .f64 0 0, .slice none 0 0]) (by simp [results, Try.results29, go_sem, lf]) rfl (mergeOut_of EQ.out ⟨(.slice none 0 0), rfl, lies_nil (by decide), bf⟩)
    have g1 : (k.op == 1) = false := by rw [beq_eq_false_iff_ne]; exact h1
    by_cases h2 : k.op = 2
    · have EQ := Lib.hid (show Pr.turnC t n x y (k :: rest) = .leaf 1 by simp [Pr.turnC, h2])
      go_enter Try.func29, Try.ntmps29
      go_wp2_with fail
      generalize hW : World.alloc (World.alloc (World.alloc w _) _) _ = WW
      have of : Own WW (w.heap.size + 1) #[.int .i64 1, .string ⟨#[]⟩, .int .i64 0, .complex .f64 0 0, .slice none 0 0] 33 := by rw [← hW]; exact (Own.newAt _ _ _ (by simp)).alloc _
      have bf : Below w.heap.size w WW := by rw [← hW]; exact (((Below.refl _ _).alloc (Nat.le_refl _) _).alloc (by simp) _).alloc (by simp; omega) _
      have lf := of.cell
      exact bodyPost_ret (v := .agg #[.int .i64 1, .string ⟨#[]⟩, .int .i64 0, .complex .f64 0 0, .slice none 0 0]) (by simp [results, Try.results29, go_sem, lf]) rfl (mergeOut_of EQ.out ⟨(.slice none 0 0), rfl, lies_nil (by decide), bf⟩)
    have g2 : (k.op == 2) = false := by rw [beq_eq_false_iff_ne]; exact h2
    by_cases h10 : k.op = 10
    · have hk10 : (k.op == 10) = true := by rw [beq_iff_eq]; exact h10
      match hkk : k.kids with
      | [] =>
        have hz : k.kids.length = 0 := by rw [hkk]; rfl
        have EQ := Lib.hid (show Pr.turnC t n x y (k :: rest) = .node 10 t n x y (k :: rest) by simp [Pr.turnC, h10, hkk])
        rw [hz] at *
        go_enter Try.func29, Try.ntmps29
        go_wp2_with fail
        generalize hW : World.alloc (World.alloc (World.alloc w _) _) _ = WW
        have of : Own WW (w.heap.size + 1) #[.int .i64 10, .string t, .int .i64 n, .complex .f64 x y, .slice (some ⟨b, o, none⟩) len cap] 33 := by rw [← hW]; exact (Own.newAt _ _ _ (by simp)).alloc _
        have bf : Below w.heap.size w WW := by rw [← hW]; exact (((Below.refl _ _).alloc (Nat.le_refl _) _).alloc (by simp) _).alloc (by simp; omega) _
        have lf := of.cell
        exact bodyPost_ret (v := .agg #[.int .i64 10, .string t, .int .i64 n, .complex .f64 x y, .slice (some ⟨b, o, none⟩) len cap]) (by simp [results, Try.results29, go_sem, lf]) rfl (mergeOut_of EQ.out ⟨(.slice (some ⟨b, o, none⟩) len cap), rfl, low_s3 bf HL.out, bf⟩)
      | c :: more =>
        have EQ := Lib.hid (show Pr.turnC t n x y (k :: rest) = c by simp [Pr.turnC, h10, hkk])
        obtain ⟨_, _, b2, o2, V2, e2, _, hl2, hc2, hn2, hcell2, hrec2⟩ := lies_slice HLk.out
        cases e2
        unfold maxLen at hc2
        have hk0 : 0 < k.kids.length := by rw [hkk]; simp
        have hk1 : (0 : Int) < (k.kids.length : Int) := by omega
        obtain ⟨rfl, hS2⟩ := hn2 hk0
        have hq2 : k.kids[0]? = some c := by rw [hkk]; rfl
        obtain ⟨d0, d1, d2, d3, d4⟩ := pc_cells (w := w) (fun i u hu => hcell2 0 c hq2 i u hu)
        have Lc := hrec2 0 c hq2
        obtain ⟨oc, cc, hV2⟩ := lies_val Lc
        rw [hV2] at d4 Lc
        have zb2 := hS2.2
        simp only [Nat.zero_mul, Nat.zero_add, Nat.add_zero] at d0 d1 d2 d3 d4
        have HLc := Lib.hid Lc
        clear hcell2 hrec2 hn2 Lc hS2 hV2 hq2 hkk
        have b3 : ∀ A C D : Obj, Below w.heap.size w (((w.alloc A).alloc C).alloc D) := fun A C D => (((Below.refl _ _).alloc (Nat.le_refl _) _).alloc (by simp) _).alloc (by simp; omega) _
        have q0 := fun A C D => ((b3 A C D).cell (p := ⟨b2, o2, none⟩) zb2).trans d0
        have q1 := fun A C D => ((b3 A C D).cell (p := ⟨b2, o2 + 1, none⟩) zb2).trans d1
        have q2 := fun A C D => ((b3 A C D).cell (p := ⟨b2, o2 + 2, none⟩) zb2).trans d2
        have q3 := fun A C D => ((b3 A C D).cell (p := ⟨b2, o2 + 3, none⟩) zb2).trans d3
        have q4 := fun A C D => ((b3 A C D).cell (p := ⟨b2, o2 + 4, none⟩) zb2).trans d4
        clear b3
        generalize k.kids.length = kl at *
        have hkd : decide (0 < kl) = true := by simp; omega
        go_enter Try.func29, Try.ntmps29
        go_wp2_with fail
        generalize hW : World.alloc (World.alloc (World.alloc w _) _) _ = WW
        have of : Own WW (w.heap.size + 1) #[.int .i64 c.op, .string c.text, .int .i64 c.n, .complex .f64 c.x c.y, (.slice oc c.kids.length cc)] 33 := by rw [← hW]; exact (Own.newAt _ _ _ (by simp)).alloc _
        have bf : Below w.heap.size w WW := by rw [← hW]; exact (((Below.refl _ _).alloc (Nat.le_refl _) _).alloc (by simp) _).alloc (by simp; omega) _
        have lf := of.cell
        exact bodyPost_ret (v := .agg #[.int .i64 c.op, .string c.text, .int .i64 c.n, .complex .f64 c.x c.y, (.slice oc c.kids.length cc)]) (by simp [results, Try.results29, go_sem, lf]) rfl (mergeOut_of EQ.out ⟨(.slice oc c.kids.length cc), rfl, low_s3 bf HLc.out, bf⟩)
    have g10 : (k.op == 10) = false := by rw [beq_eq_false_iff_ne]; exact h10
    have EQ := Lib.hid (show Pr.turnC t n x y (k :: rest) = .node 10 t n x y (k :: rest) by simp [Pr.turnC, h1, h2, h10])
    go_enter Try.func29, Try.ntmps29
    go_wp2_with fail
    generalize hW : World.alloc (World.alloc (World.alloc w _) _) _ = WW
    have of : Own WW (w.heap.size + 1) #[.int .i64 10, .string t, .int .i64 n, .complex .f64 x y, .slice (some ⟨b, o, none⟩) len cap] 33 := by rw [← hW]; exact (Own.newAt _ _ _ (by simp)).alloc _
    have bf : Below w.heap.size w WW := by rw [← hW]; exact (((Below.refl _ _).alloc (Nat.le_refl _) _).alloc (by simp) _).alloc (by simp; omega) _
    have lf := of.cell
    exact bodyPost_ret (v := .agg #[.int .i64 10, .string t, .int .i64 n, .complex .f64 x y, .slice (some ⟨b, o, none⟩) len cap]) (by simp [results, Try.results29, go_sem, lf]) rfl (mergeOut_of EQ.out ⟨(.slice (some ⟨b, o, none⟩) len cap), rfl, low_s3 bf HL.out, bf⟩)

end Go.Proofs.Ytgfepbcolcmdgaa
