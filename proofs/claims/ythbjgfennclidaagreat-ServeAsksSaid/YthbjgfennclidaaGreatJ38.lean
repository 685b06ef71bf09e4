/- Joined: SrvR1. -/
import Derived.Test.YthbjgfennclidaaGreatJ34
import Derived.Test.YthbjgfennclidaaGreatJ14
import Derived.Test.YthbjgfennclidaaGreatJ22
/- The document's Ends and May of layer 12. Walked. -/
namespace Go.Proofs.YthbjgfennclidaaGreat
set_option linter.unusedVariables false
set_option linter.unusedSimpArgs false
set_option maxRecDepth 100000
open Go Go.RowKit
set_option maxHeartbeats 1000000 in
theorem refEnds_calls (a b : Int) (w : World) :
    Calls Tryz.prog 46 #[.int .i64 a, .int .i64 b] w fun e w' => e = .returned (.bool (endsB a b)) ∧ w = w' := by
  unfold endsB inB
  by_cases h1 : 1 ≤ a
  · by_cases h2 : a ≤ 8
    · by_cases h3 : 1 ≤ b
      · by_cases h4 : b ≤ 8
        · by_cases h5 : a = b
          · have h6 : (a != b) = false := by simp [h5]
            have h7 := Lib.hid h5
            clear h5
            go_enter Tryz.func46, Tryz.ntmps46
            go_wp2_with fail
            go_ret
            exact ⟨ret_bool (by simp [h7.out]), rfl⟩
          · have h6 : (a != b) = true := by simp [h5]
            have h7 := Lib.hid h5
            clear h5
            go_enter Tryz.func46, Tryz.ntmps46
            go_wp2_with fail
            go_ret
            exact ⟨ret_bool (by simp [h1, h2, h3, h4, h7.out]), rfl⟩
        · go_enter Tryz.func46, Tryz.ntmps46
          go_wp2_with fail
          go_ret
          exact ⟨ret_bool (by first | (simp [h4]; done) | (simp [h4]; intros; omega) | (simp; intros; omega)), rfl⟩
      · go_enter Tryz.func46, Tryz.ntmps46
        go_wp2_with fail
        go_ret
        exact ⟨ret_bool (by first | (simp [h3]; done) | (simp [h3]; intros; omega) | (simp; intros; omega)), rfl⟩
    · go_enter Tryz.func46, Tryz.ntmps46
      go_wp2_with fail
      go_ret
      exact ⟨ret_bool (by first | (simp [h2]; done) | (simp [h2]; intros; omega) | (simp; intros; omega)), rfl⟩
  · go_enter Tryz.func46, Tryz.ntmps46
    go_wp2_with fail
    go_ret
    exact ⟨ret_bool (by first | (simp [h1]; done) | (simp [h1]; intros; omega) | (simp; intros; omega)), rfl⟩
structure MyS (w : World) (A : Array Value) (l : List Itm) (k : Nat) (wr : World) : Prop where
  o : Own wr w.heap.size A 47
  b : Below w.heap.size w wr
  s : ∀ j a, j < k → l[j]? = some a → hadI a = true
  u : ∀ j a b, j + 1 < k → l[j]? = some a → l[j + 1]? = some b → upB a b = true
def MyRel (w : World) (A : Array Value) (l : List Itm) (len : Nat) (iv : Value) (wr : World) : Prop := ∃ k : Nat, k ≤ len ∧ iv = .int .i64 k ∧ Hid (MyS w A l k wr)
set_option maxRecDepth 100000 in
set_option maxHeartbeats 16000000 in
theorem refMayM_calls (m : Mg) (fv kv hv lv : Value) (w : World) (hM : MgW w m fv kv hv lv) (hf : m.f.size ≤ 1000) (hi : (flatI m.k.l).length ≤ 10000) :
    Calls Tryz.prog 13 #[.agg (mgA m fv kv hv lv)] w fun e w' => e = .returned (.bool (mayM m)) ∧ Below w.heap.size w w' := by
  obtain ⟨of_, cf, rfl⟩ := lies_val hM.lf
  obtain ⟨ok_, ck, rfl⟩ := hM.lk.val
  obtain ⟨ol, cl, rfl⟩ := hM.ll.val
  have HM := Lib.hid (And.intro hM.lf hM.lk)
  obtain ⟨oh, ch, bh, oh9, rfl, hr⟩ := hM.lh
  have HR := Lib.hid hr
  have HOK := Lib.hid hr.ok
  have hcap := hr.len
  have hmax := hr.max
  unfold maxLen at hmax
  clear hr hM
  have CP := fun w' h => Lib.hid (refMay3_calls m.f (.slice of_ m.f.kids.length cf) w' h hf)
  have CK := fun w' h => Lib.hid (refMayK_calls nameB (fun s w hs => refName_calls s w hs) m.k (.slice ok_ m.k.l.length ck) w' h hi)
  have CE := fun w' => Lib.hid (refEnds_calls m.frm m.dst w')
  have HE := Lib.hid (show mayM m = (decide (m.kind = 1) && (endsB m.frm m.dst && (inB m.sid 0 1000000 && ((decide (m.turn = 0) && (decide (m.n = 0) && (decide (m.l.length = 0) && !m.star))) && (hadB m.has && (Pr.mayB m.f && mayK nameB m.k)))))) from rfl)
  have HHL := Lib.hid (fun h => hadB_len (l := m.has) h)
  generalize hres : mayM m = res at *
  clear hres
  generalize hlen9 : m.has.length = hlen at *
  have HLEN := Lib.hid hlen9
  clear hlen9
  generalize m.l.length = llen at *
  generalize endsB m.frm m.dst = b1 at *
  generalize Pr.mayB m.f = b2 at *
  generalize mayK nameB m.k = b3 at *
  have OA := Lib.hid (Own.new w (mgA m (.slice of_ m.f.kids.length cf) (.slice ok_ m.k.l.length ck) (.slice oh hlen ch) (.slice ol llen cl)) 47)
  have BEL := Lib.hid ((Below.refl w.heap.size w).alloc (Nat.le_refl _) (.cells (mgA m (.slice of_ m.f.kids.length cf) (.slice ok_ m.k.l.length ck) (.slice oh hlen ch) (.slice ol llen cl)) 47))
  by_cases h0 : m.kind = 1
  rotate_left 1
  · skip
    have HRS := Lib.hid (show res = false by rw [HE.out, decide_eq_false h0]; simp)
    clear HE HHL
    have lA := OA.out.cell
    have zA := OA.out.lt
    go_enter Tryz.func13, Tryz.ntmps13
    go_wp2_with (first
      | (go_at_call 46; (with_reducible refine (CE _).out.mono ?_); rintro e w5 ⟨rfl, rfl⟩)
      | (refine wpList_load_mid (by rfl) 44 _ (by rfl) w.heap.size 5 (by rfl) [.int .i64 m.f.op, .string m.f.text, .int .i64 m.f.n, .complex .f64 m.f.x m.f.y, .slice of_ m.f.kids.length cf] _ (by exact OA.out.part 5 _ (by rfl)) Tryz.underlying44 (by rfl) (by kernel_rfl) ?_)
      | (refine wpList_load_mid (by rfl) 31 _ (by rfl) w.heap.size 10 (by rfl) (knA m.k.star (.slice ok_ m.k.l.length ck)).toList _ (by exact OA.out.part 10 _ (by rfl)) Tryz.underlying31 (by rfl) (by kernel_rfl) ?_)
      | (go_at_call 47; refine (CP _ (HM.out.1.later BEL.out (Nat.le_refl _))).out.mono ?_; rintro e w6 ⟨rfl, hb⟩; clear lA zA; replace OA := Lib.hid (OA.out.later hb); replace BEL := Lib.hid (BEL.out.trans (Below.mono hb BEL.out.size)); have lA := OA.out.cell; have zA := OA.out.lt; clear hb)
      | (go_at_call 48; refine (CK _ (HM.out.2.later BEL.out (Nat.le_refl _))).out.mono ?_; rintro e w7 ⟨rfl, hb⟩; clear lA zA; replace OA := Lib.hid (OA.out.later hb); replace BEL := Lib.hid (BEL.out.trans (Below.mono hb BEL.out.size)); have lA := OA.out.cell; have zA := OA.out.lt; clear hb)
      | fail)
    go_ret
    exact ⟨ret_bool HRS.out.symm, BEL.out⟩
  · skip
    cases b1
    · have HRS := Lib.hid (show res = false by rw [HE.out]; simp)
      clear HE HHL
      have lA := OA.out.cell
      have zA := OA.out.lt
      go_enter Tryz.func13, Tryz.ntmps13
      go_wp2_with (first
        | (go_at_call 46; (with_reducible refine (CE _).out.mono ?_); rintro e w5 ⟨rfl, rfl⟩)
        | (refine wpList_load_mid (by rfl) 44 _ (by rfl) w.heap.size 5 (by rfl) [.int .i64 m.f.op, .string m.f.text, .int .i64 m.f.n, .complex .f64 m.f.x m.f.y, .slice of_ m.f.kids.length cf] _ (by exact OA.out.part 5 _ (by rfl)) Tryz.underlying44 (by rfl) (by kernel_rfl) ?_)
        | (refine wpList_load_mid (by rfl) 31 _ (by rfl) w.heap.size 10 (by rfl) (knA m.k.star (.slice ok_ m.k.l.length ck)).toList _ (by exact OA.out.part 10 _ (by rfl)) Tryz.underlying31 (by rfl) (by kernel_rfl) ?_)
        | (go_at_call 47; refine (CP _ (HM.out.1.later BEL.out (Nat.le_refl _))).out.mono ?_; rintro e w6 ⟨rfl, hb⟩; clear lA zA; replace OA := Lib.hid (OA.out.later hb); replace BEL := Lib.hid (BEL.out.trans (Below.mono hb BEL.out.size)); have lA := OA.out.cell; have zA := OA.out.lt; clear hb)
        | (go_at_call 48; refine (CK _ (HM.out.2.later BEL.out (Nat.le_refl _))).out.mono ?_; rintro e w7 ⟨rfl, hb⟩; clear lA zA; replace OA := Lib.hid (OA.out.later hb); replace BEL := Lib.hid (BEL.out.trans (Below.mono hb BEL.out.size)); have lA := OA.out.cell; have zA := OA.out.lt; clear hb)
        | fail)
      go_ret
      exact ⟨ret_bool HRS.out.symm, BEL.out⟩
    · skip
      cases b2
      · have HRS := Lib.hid (show res = false by rw [HE.out]; simp)
        clear HE HHL
        have lA := OA.out.cell
        have zA := OA.out.lt
        go_enter Tryz.func13, Tryz.ntmps13
        go_wp2_with (first
          | (go_at_call 46; (with_reducible refine (CE _).out.mono ?_); rintro e w5 ⟨rfl, rfl⟩)
          | (refine wpList_load_mid (by rfl) 44 _ (by rfl) w.heap.size 5 (by rfl) [.int .i64 m.f.op, .string m.f.text, .int .i64 m.f.n, .complex .f64 m.f.x m.f.y, .slice of_ m.f.kids.length cf] _ (by exact OA.out.part 5 _ (by rfl)) Tryz.underlying44 (by rfl) (by kernel_rfl) ?_)
          | (refine wpList_load_mid (by rfl) 31 _ (by rfl) w.heap.size 10 (by rfl) (knA m.k.star (.slice ok_ m.k.l.length ck)).toList _ (by exact OA.out.part 10 _ (by rfl)) Tryz.underlying31 (by rfl) (by kernel_rfl) ?_)
          | (go_at_call 47; refine (CP _ (HM.out.1.later BEL.out (Nat.le_refl _))).out.mono ?_; rintro e w6 ⟨rfl, hb⟩; clear lA zA; replace OA := Lib.hid (OA.out.later hb); replace BEL := Lib.hid (BEL.out.trans (Below.mono hb BEL.out.size)); have lA := OA.out.cell; have zA := OA.out.lt; clear hb)
          | (go_at_call 48; refine (CK _ (HM.out.2.later BEL.out (Nat.le_refl _))).out.mono ?_; rintro e w7 ⟨rfl, hb⟩; clear lA zA; replace OA := Lib.hid (OA.out.later hb); replace BEL := Lib.hid (BEL.out.trans (Below.mono hb BEL.out.size)); have lA := OA.out.cell; have zA := OA.out.lt; clear hb)
          | fail)
        go_ret
        exact ⟨ret_bool HRS.out.symm, BEL.out⟩
      · skip
        cases b3
        · have HRS := Lib.hid (show res = false by rw [HE.out]; simp)
          clear HE HHL
          have lA := OA.out.cell
          have zA := OA.out.lt
          go_enter Tryz.func13, Tryz.ntmps13
          go_wp2_with (first
            | (go_at_call 46; (with_reducible refine (CE _).out.mono ?_); rintro e w5 ⟨rfl, rfl⟩)
            | (refine wpList_load_mid (by rfl) 44 _ (by rfl) w.heap.size 5 (by rfl) [.int .i64 m.f.op, .string m.f.text, .int .i64 m.f.n, .complex .f64 m.f.x m.f.y, .slice of_ m.f.kids.length cf] _ (by exact OA.out.part 5 _ (by rfl)) Tryz.underlying44 (by rfl) (by kernel_rfl) ?_)
            | (refine wpList_load_mid (by rfl) 31 _ (by rfl) w.heap.size 10 (by rfl) (knA m.k.star (.slice ok_ m.k.l.length ck)).toList _ (by exact OA.out.part 10 _ (by rfl)) Tryz.underlying31 (by rfl) (by kernel_rfl) ?_)
            | (go_at_call 47; refine (CP _ (HM.out.1.later BEL.out (Nat.le_refl _))).out.mono ?_; rintro e w6 ⟨rfl, hb⟩; clear lA zA; replace OA := Lib.hid (OA.out.later hb); replace BEL := Lib.hid (BEL.out.trans (Below.mono hb BEL.out.size)); have lA := OA.out.cell; have zA := OA.out.lt; clear hb)
            | (go_at_call 48; refine (CK _ (HM.out.2.later BEL.out (Nat.le_refl _))).out.mono ?_; rintro e w7 ⟨rfl, hb⟩; clear lA zA; replace OA := Lib.hid (OA.out.later hb); replace BEL := Lib.hid (BEL.out.trans (Below.mono hb BEL.out.size)); have lA := OA.out.cell; have zA := OA.out.lt; clear hb)
            | fail)
          go_ret
          exact ⟨ret_bool HRS.out.symm, BEL.out⟩
        · skip
          by_cases h4 : 0 ≤ m.sid
          rotate_left 1
          · skip
            have hs : inB m.sid 0 1000000 = false := by unfold inB; rw [decide_eq_false h4]; rfl
            have HRS := Lib.hid (show res = false by rw [HE.out, hs]; simp)
            clear HE HHL hs
            have lA := OA.out.cell
            have zA := OA.out.lt
            go_enter Tryz.func13, Tryz.ntmps13
            go_wp2_with (first
              | (go_at_call 46; (with_reducible refine (CE _).out.mono ?_); rintro e w5 ⟨rfl, rfl⟩)
              | (refine wpList_load_mid (by rfl) 44 _ (by rfl) w.heap.size 5 (by rfl) [.int .i64 m.f.op, .string m.f.text, .int .i64 m.f.n, .complex .f64 m.f.x m.f.y, .slice of_ m.f.kids.length cf] _ (by exact OA.out.part 5 _ (by rfl)) Tryz.underlying44 (by rfl) (by kernel_rfl) ?_)
              | (refine wpList_load_mid (by rfl) 31 _ (by rfl) w.heap.size 10 (by rfl) (knA m.k.star (.slice ok_ m.k.l.length ck)).toList _ (by exact OA.out.part 10 _ (by rfl)) Tryz.underlying31 (by rfl) (by kernel_rfl) ?_)
              | (go_at_call 47; refine (CP _ (HM.out.1.later BEL.out (Nat.le_refl _))).out.mono ?_; rintro e w6 ⟨rfl, hb⟩; clear lA zA; replace OA := Lib.hid (OA.out.later hb); replace BEL := Lib.hid (BEL.out.trans (Below.mono hb BEL.out.size)); have lA := OA.out.cell; have zA := OA.out.lt; clear hb)
              | (go_at_call 48; refine (CK _ (HM.out.2.later BEL.out (Nat.le_refl _))).out.mono ?_; rintro e w7 ⟨rfl, hb⟩; clear lA zA; replace OA := Lib.hid (OA.out.later hb); replace BEL := Lib.hid (BEL.out.trans (Below.mono hb BEL.out.size)); have lA := OA.out.cell; have zA := OA.out.lt; clear hb)
              | fail)
            go_ret
            exact ⟨ret_bool HRS.out.symm, BEL.out⟩
          · skip
            by_cases h5 : m.sid ≤ 1000000
            rotate_left 1
            · skip
              have hs : inB m.sid 0 1000000 = false := by unfold inB; rw [decide_eq_false h5]; simp
              have HRS := Lib.hid (show res = false by rw [HE.out, hs]; simp)
              clear HE HHL hs
              have lA := OA.out.cell
              have zA := OA.out.lt
              go_enter Tryz.func13, Tryz.ntmps13
              go_wp2_with (first
                | (go_at_call 46; (with_reducible refine (CE _).out.mono ?_); rintro e w5 ⟨rfl, rfl⟩)
                | (refine wpList_load_mid (by rfl) 44 _ (by rfl) w.heap.size 5 (by rfl) [.int .i64 m.f.op, .string m.f.text, .int .i64 m.f.n, .complex .f64 m.f.x m.f.y, .slice of_ m.f.kids.length cf] _ (by exact OA.out.part 5 _ (by rfl)) Tryz.underlying44 (by rfl) (by kernel_rfl) ?_)
                | (refine wpList_load_mid (by rfl) 31 _ (by rfl) w.heap.size 10 (by rfl) (knA m.k.star (.slice ok_ m.k.l.length ck)).toList _ (by exact OA.out.part 10 _ (by rfl)) Tryz.underlying31 (by rfl) (by kernel_rfl) ?_)
                | (go_at_call 47; refine (CP _ (HM.out.1.later BEL.out (Nat.le_refl _))).out.mono ?_; rintro e w6 ⟨rfl, hb⟩; clear lA zA; replace OA := Lib.hid (OA.out.later hb); replace BEL := Lib.hid (BEL.out.trans (Below.mono hb BEL.out.size)); have lA := OA.out.cell; have zA := OA.out.lt; clear hb)
                | (go_at_call 48; refine (CK _ (HM.out.2.later BEL.out (Nat.le_refl _))).out.mono ?_; rintro e w7 ⟨rfl, hb⟩; clear lA zA; replace OA := Lib.hid (OA.out.later hb); replace BEL := Lib.hid (BEL.out.trans (Below.mono hb BEL.out.size)); have lA := OA.out.cell; have zA := OA.out.lt; clear hb)
                | fail)
              go_ret
              exact ⟨ret_bool HRS.out.symm, BEL.out⟩
            · skip
              by_cases h6 : hlen ≤ 40
              rotate_left 1
              · skip
                have hs := HHL.out h6
                have HRS := Lib.hid (show res = false by rw [HE.out, hs]; simp)
                clear HE HHL hs
                have h66 : (40 : Int) < (hlen : Int) := by omega
                have lA := OA.out.cell
                have zA := OA.out.lt
                go_enter Tryz.func13, Tryz.ntmps13
                go_wp2_with (first
                  | (go_at_call 46; (with_reducible refine (CE _).out.mono ?_); rintro e w5 ⟨rfl, rfl⟩)
                  | (refine wpList_load_mid (by rfl) 44 _ (by rfl) w.heap.size 5 (by rfl) [.int .i64 m.f.op, .string m.f.text, .int .i64 m.f.n, .complex .f64 m.f.x m.f.y, .slice of_ m.f.kids.length cf] _ (by exact OA.out.part 5 _ (by rfl)) Tryz.underlying44 (by rfl) (by kernel_rfl) ?_)
                  | (refine wpList_load_mid (by rfl) 31 _ (by rfl) w.heap.size 10 (by rfl) (knA m.k.star (.slice ok_ m.k.l.length ck)).toList _ (by exact OA.out.part 10 _ (by rfl)) Tryz.underlying31 (by rfl) (by kernel_rfl) ?_)
                  | (go_at_call 47; refine (CP _ (HM.out.1.later BEL.out (Nat.le_refl _))).out.mono ?_; rintro e w6 ⟨rfl, hb⟩; clear lA zA; replace OA := Lib.hid (OA.out.later hb); replace BEL := Lib.hid (BEL.out.trans (Below.mono hb BEL.out.size)); have lA := OA.out.cell; have zA := OA.out.lt; clear hb)
                  | (go_at_call 48; refine (CK _ (HM.out.2.later BEL.out (Nat.le_refl _))).out.mono ?_; rintro e w7 ⟨rfl, hb⟩; clear lA zA; replace OA := Lib.hid (OA.out.later hb); replace BEL := Lib.hid (BEL.out.trans (Below.mono hb BEL.out.size)); have lA := OA.out.cell; have zA := OA.out.lt; clear hb)
                  | fail)
                go_ret
                exact ⟨ret_bool HRS.out.symm, BEL.out⟩
              · skip
                have h66 : (hlen : Int) ≤ 40 := by omega
                by_cases h7 : m.turn = 0
                rotate_left 1
                · skip
                  have HRS := Lib.hid (show res = false by rw [HE.out, decide_eq_false h7]; simp)
                  clear HE HHL
                  have lA := OA.out.cell
                  have zA := OA.out.lt
                  go_enter Tryz.func13, Tryz.ntmps13
                  go_wp2_with (first
                    | (go_at_call 46; (with_reducible refine (CE _).out.mono ?_); rintro e w5 ⟨rfl, rfl⟩)
                    | (refine wpList_load_mid (by rfl) 44 _ (by rfl) w.heap.size 5 (by rfl) [.int .i64 m.f.op, .string m.f.text, .int .i64 m.f.n, .complex .f64 m.f.x m.f.y, .slice of_ m.f.kids.length cf] _ (by exact OA.out.part 5 _ (by rfl)) Tryz.underlying44 (by rfl) (by kernel_rfl) ?_)
                    | (refine wpList_load_mid (by rfl) 31 _ (by rfl) w.heap.size 10 (by rfl) (knA m.k.star (.slice ok_ m.k.l.length ck)).toList _ (by exact OA.out.part 10 _ (by rfl)) Tryz.underlying31 (by rfl) (by kernel_rfl) ?_)
                    | (go_at_call 47; refine (CP _ (HM.out.1.later BEL.out (Nat.le_refl _))).out.mono ?_; rintro e w6 ⟨rfl, hb⟩; clear lA zA; replace OA := Lib.hid (OA.out.later hb); replace BEL := Lib.hid (BEL.out.trans (Below.mono hb BEL.out.size)); have lA := OA.out.cell; have zA := OA.out.lt; clear hb)
                    | (go_at_call 48; refine (CK _ (HM.out.2.later BEL.out (Nat.le_refl _))).out.mono ?_; rintro e w7 ⟨rfl, hb⟩; clear lA zA; replace OA := Lib.hid (OA.out.later hb); replace BEL := Lib.hid (BEL.out.trans (Below.mono hb BEL.out.size)); have lA := OA.out.cell; have zA := OA.out.lt; clear hb)
                    | fail)
                  go_ret
                  exact ⟨ret_bool HRS.out.symm, BEL.out⟩
                · skip
                  by_cases h8 : m.n = 0
                  rotate_left 1
                  · skip
                    have HRS := Lib.hid (show res = false by rw [HE.out, decide_eq_false h8]; simp)
                    clear HE HHL
                    have lA := OA.out.cell
                    have zA := OA.out.lt
                    go_enter Tryz.func13, Tryz.ntmps13
                    go_wp2_with (first
                      | (go_at_call 46; (with_reducible refine (CE _).out.mono ?_); rintro e w5 ⟨rfl, rfl⟩)
                      | (refine wpList_load_mid (by rfl) 44 _ (by rfl) w.heap.size 5 (by rfl) [.int .i64 m.f.op, .string m.f.text, .int .i64 m.f.n, .complex .f64 m.f.x m.f.y, .slice of_ m.f.kids.length cf] _ (by exact OA.out.part 5 _ (by rfl)) Tryz.underlying44 (by rfl) (by kernel_rfl) ?_)
                      | (refine wpList_load_mid (by rfl) 31 _ (by rfl) w.heap.size 10 (by rfl) (knA m.k.star (.slice ok_ m.k.l.length ck)).toList _ (by exact OA.out.part 10 _ (by rfl)) Tryz.underlying31 (by rfl) (by kernel_rfl) ?_)
                      | (go_at_call 47; refine (CP _ (HM.out.1.later BEL.out (Nat.le_refl _))).out.mono ?_; rintro e w6 ⟨rfl, hb⟩; clear lA zA; replace OA := Lib.hid (OA.out.later hb); replace BEL := Lib.hid (BEL.out.trans (Below.mono hb BEL.out.size)); have lA := OA.out.cell; have zA := OA.out.lt; clear hb)
                      | (go_at_call 48; refine (CK _ (HM.out.2.later BEL.out (Nat.le_refl _))).out.mono ?_; rintro e w7 ⟨rfl, hb⟩; clear lA zA; replace OA := Lib.hid (OA.out.later hb); replace BEL := Lib.hid (BEL.out.trans (Below.mono hb BEL.out.size)); have lA := OA.out.cell; have zA := OA.out.lt; clear hb)
                      | fail)
                    go_ret
                    exact ⟨ret_bool HRS.out.symm, BEL.out⟩
                  · skip
                    by_cases h9 : llen = 0
                    rotate_left 1
                    · skip
                      have HRS := Lib.hid (show res = false by rw [HE.out, decide_eq_false h9]; simp)
                      clear HE HHL
                      have h99 : ¬ (llen : Int) = 0 := by omega
                      have lA := OA.out.cell
                      have zA := OA.out.lt
                      go_enter Tryz.func13, Tryz.ntmps13
                      go_wp2_with (first
                        | (go_at_call 46; (with_reducible refine (CE _).out.mono ?_); rintro e w5 ⟨rfl, rfl⟩)
                        | (refine wpList_load_mid (by rfl) 44 _ (by rfl) w.heap.size 5 (by rfl) [.int .i64 m.f.op, .string m.f.text, .int .i64 m.f.n, .complex .f64 m.f.x m.f.y, .slice of_ m.f.kids.length cf] _ (by exact OA.out.part 5 _ (by rfl)) Tryz.underlying44 (by rfl) (by kernel_rfl) ?_)
                        | (refine wpList_load_mid (by rfl) 31 _ (by rfl) w.heap.size 10 (by rfl) (knA m.k.star (.slice ok_ m.k.l.length ck)).toList _ (by exact OA.out.part 10 _ (by rfl)) Tryz.underlying31 (by rfl) (by kernel_rfl) ?_)
                        | (go_at_call 47; refine (CP _ (HM.out.1.later BEL.out (Nat.le_refl _))).out.mono ?_; rintro e w6 ⟨rfl, hb⟩; clear lA zA; replace OA := Lib.hid (OA.out.later hb); replace BEL := Lib.hid (BEL.out.trans (Below.mono hb BEL.out.size)); have lA := OA.out.cell; have zA := OA.out.lt; clear hb)
                        | (go_at_call 48; refine (CK _ (HM.out.2.later BEL.out (Nat.le_refl _))).out.mono ?_; rintro e w7 ⟨rfl, hb⟩; clear lA zA; replace OA := Lib.hid (OA.out.later hb); replace BEL := Lib.hid (BEL.out.trans (Below.mono hb BEL.out.size)); have lA := OA.out.cell; have zA := OA.out.lt; clear hb)
                        | fail)
                      go_ret
                      exact ⟨ret_bool HRS.out.symm, BEL.out⟩
                    · skip
                      cases hst : m.star
                      · have HRS := Lib.hid (show res = hadB m.has by rw [HE.out, decide_eq_true h0, decide_eq_true h7, decide_eq_true h8, decide_eq_true h9, hst, show inB m.sid 0 1000000 = true by unfold inB; rw [decide_eq_true h4, decide_eq_true h5]; rfl]; simp)
                        subst h9
                        have lA := OA.out.cell
                        have zA := OA.out.lt
                        go_enter Tryz.func13, Tryz.ntmps13
                        go_upto_region 8 with (first
                          | (go_at_call 46; (with_reducible refine (CE _).out.mono ?_); rintro e w5 ⟨rfl, rfl⟩)
                          | (refine wpList_load_mid (by rfl) 44 _ (by rfl) w.heap.size 5 (by rfl) [.int .i64 m.f.op, .string m.f.text, .int .i64 m.f.n, .complex .f64 m.f.x m.f.y, .slice of_ m.f.kids.length cf] _ (by exact OA.out.part 5 _ (by rfl)) Tryz.underlying44 (by rfl) (by kernel_rfl) ?_)
                          | (refine wpList_load_mid (by rfl) 31 _ (by rfl) w.heap.size 10 (by rfl) (knA m.k.star (.slice ok_ m.k.l.length ck)).toList _ (by exact OA.out.part 10 _ (by rfl)) Tryz.underlying31 (by rfl) (by kernel_rfl) ?_)
                          | (go_at_call 47; refine (CP _ (HM.out.1.later BEL.out (Nat.le_refl _))).out.mono ?_; rintro e w6 ⟨rfl, hb⟩; clear lA zA; replace OA := Lib.hid (OA.out.later hb); replace BEL := Lib.hid (BEL.out.trans (Below.mono hb BEL.out.size)); have lA := OA.out.cell; have zA := OA.out.lt; clear hb)
                          | (go_at_call 48; refine (CK _ (HM.out.2.later BEL.out (Nat.le_refl _))).out.mono ?_; rintro e w7 ⟨rfl, hb⟩; clear lA zA; replace OA := Lib.hid (OA.out.later hb); replace BEL := Lib.hid (BEL.out.trans (Below.mono hb BEL.out.size)); have lA := OA.out.cell; have zA := OA.out.lt; clear hb)
                          | fail)
                        clear lA zA CP CK CE
                        have AS : Hid (MyS w (mgA m (.slice of_ m.f.kids.length cf) (.slice ok_ m.k.l.length ck) (.slice oh hlen ch) (.slice ol 0 cl)) m.has 0 _) := Lib.hid ⟨OA.out, BEL.out, fun j a hj => absurd hj (by omega), fun j a b hj => absurd hj (by omega)⟩
                        clear OA BEL HM h0 h7 h8 hst
                        go_wp2_with fail
                        go_loopw [6] (fun i wr => MyRel w (mgA m (.slice of_ m.f.kids.length cf) (.slice ok_ m.k.l.length ck) (.slice oh hlen ch) (.slice ol 0 cl)) m.has hlen i wr) (fun i _ => hlen - (intOf i).toNat)
                        case atStart => exact ⟨0, Nat.zero_le _, rfl, AS⟩
                        case round =>
                          clear AS
                          obtain ⟨k, hk, rfl, AS⟩ := hrel
                          have OA := Lib.hid AS.out.o
                          have BEL := Lib.hid AS.out.b
                          have HS := Lib.hid AS.out.s
                          have HU := Lib.hid AS.out.u
                          clear AS
                          have lA := OA.out.cell
                          have zA := OA.out.lt
                          by_cases hlt : k < hlen
                          · obtain ⟨i, hi9⟩ : ∃ x, m.has[k]? = some x := ⟨_, List.getElem?_eq_getElem (by rw [HLEN.out]; exact hlt)⟩
                            obtain ⟨rfl, hS⟩ := HR.out.at0 (by rw [HLEN.out]; omega)
                            have hS0 := Lib.hid hS
                            have HI := Lib.hid hi9
                            have hid := (HOK.out i (List.mem_of_getElem? hi9)).1
                            have HC := Lib.hid (fun w2 (hb : Below w.heap.size w w2) j u hu => (hb.cell (p := ⟨bh, oh9 + k * 4 + j, none⟩) hS).trans (HR.out.cell k i hi9 j u hu))
                            have c0 := HC.out _ BEL.out 0 _ rfl
                            have c1 := HC.out _ BEL.out 1 _ rfl
                            have c2 := HC.out _ BEL.out 2 _ rfl
                            have c3 := HC.out _ BEL.out 3 _ rfl
                            simp only [Nat.add_zero] at c0
                            have zb := Nat.lt_of_lt_of_le hS BEL.out.size
                            have k0 : (0 : Int) ≤ (k : Int) := by omega
                            have k1 : (k : Int) < (hlen : Int) := by omega
                            have CN := fun w2 => Lib.hid (refName_calls i.id w2 hid)
                            have CV := fun w2 => Lib.hid (refVer_calls i.r i.c w2)
                            have HIE := Lib.hid (show hadI i = (nameB i.id && (verB i.r i.c && inB i.st 1 1000000)) from rfl)
                            clear hi9 hS hid
                            generalize nameB i.id = d1 at *
                            generalize verB i.r i.c = d2 at *
                            by_cases hok : (d1 && (d2 && inB i.st 1 1000000)) = true
                            · have HS2 := Lib.hid (allI_step (P := hadI) HS.out HI.out (by rw [HIE.out]; exact hok))
                              rw [Bool.and_eq_true, Bool.and_eq_true] at hok
                              obtain ⟨rfl, rfl, h3⟩ := hok
                              unfold inB at h3
                              rw [Bool.and_eq_true, decide_eq_true_eq, decide_eq_true_eq] at h3
                              obtain ⟨g1, g2⟩ := h3
                              go_upto_region 15 with (first
                                | (go_at_call 49; (with_reducible refine (CN _).out.mono ?_); rintro e w8 ⟨rfl, rfl⟩)
                                | (go_at_call 50; (with_reducible refine (CV _).out.mono ?_); rintro e w8 ⟨rfl, hb⟩; clear lA zA c0 c1 c2 c3 zb; replace OA := Lib.hid (OA.out.later hb); replace BEL := Lib.hid (BEL.out.trans (Below.mono hb BEL.out.size)); have lA := OA.out.cell; have zA := OA.out.lt; have zb := Nat.lt_of_lt_of_le hS0.out BEL.out.size; have c0 := HC.out _ BEL.out 0 _ rfl; have c1 := HC.out _ BEL.out 1 _ rfl; have c2 := HC.out _ BEL.out 2 _ rfl; have c3 := HC.out _ BEL.out 3 _ rfl; simp only [Nat.add_zero] at c0; clear hb)
                                | fail)
                              clear g1 g2
                              by_cases hk0 : k = 0
                              · subst hk0
                                have HU2 := Lib.hid (show ∀ j a b, j + 1 < 0 + 1 → m.has[j]? = some a → m.has[j + 1]? = some b → upB a b = true from fun j a b hj => absurd hj (by omega))
                                have LA := fun dd os o => OA.out.has.regrown dd os o
                                have LAf := ()
                                refine wp_region_quiet_below (by kernel_rfl) (by kernel_rfl) ?_
                                repeat (first | go_big_quiet_step (fail) | quiet_step (fail))
                                refine wpQuiet_nil ?_
                                intro w7 hw'
                                have hb := regrown_below hw'
                                clear hw' LA LAf
                                replace OA := Lib.hid (OA.out.later hb)
                                replace BEL := Lib.hid (BEL.out.trans (Below.mono hb BEL.out.size))
                                clear hb
                                go_wp2_with fail
                                go_roundw
                                case rel => exact ⟨0 + 1, by omega, by go_num, Lib.hid ⟨OA.out, BEL.out, HS2.out, HU2.out⟩⟩
                                case measure => simp [intOf]; omega
                              · obtain ⟨q, rfl⟩ : ∃ q, k = q + 1 := ⟨k - 1, by omega⟩
                                obtain ⟨y, hy9⟩ : ∃ y, m.has[q]? = some y := ⟨_, List.getElem?_eq_getElem (by rw [HLEN.out]; omega)⟩
                                have d0 := (BEL.out.cell (p := ⟨bh, oh9 + q * 4 + 0, none⟩) hS0.out).trans (HR.out.cell q y hy9 0 _ rfl)
                                simp only [Nat.add_zero] at d0
                                have s0 := fun dd os => cell_regrown d0 dd os
                                have s1 := fun dd os => cell_regrown c0 dd os
                                have p0 : (0 : Int) < ((q + 1 : Nat) : Int) := by omega
                                have p1 : ((q + 1 : Nat) : Int) - 1 = (q : Int) := by omega
                                have p2 : (q : Int) < (hlen : Int) := by omega
                                have p3 : (0 : Int) ≤ (q : Int) := by omega
                                have HY := Lib.hid hy9
                                clear d0 hy9 c0
                                have LA := fun dd os o => OA.out.has.regrown dd os o
                                have LAf := ()
                                cases hu : upB y i
                                · have E := Lib.hid (hadB_up HY.out HI.out hu)
                                  have hg : (Op.bytesLess i.id.toList y.id.toList || i.id.toList == y.id.toList) = true := by unfold upB at hu; rw [Bool.not_eq_false'] at hu; exact hu
                                  clear hu
                                  refine wp_region_quiet_below (by kernel_rfl) (by kernel_rfl) ?_
                                  repeat (first | go_big_quiet_step (fail) | quiet_step (fail))
                                  refine wpQuiet_nil ?_
                                  intro w7 hw'
                                  have hb := regrown_below hw'
                                  clear hw' LA LAf
                                  clear s0 s1
                                  replace OA := Lib.hid (OA.out.later hb)
                                  replace BEL := Lib.hid (BEL.out.trans (Below.mono hb BEL.out.size))
                                  clear hb
                                  go_wp2_with fail
                                  go_ret
                                  exact ⟨ret_bool (HRS.out.trans E.out).symm, BEL.out⟩
                                · have hg : (Op.bytesLess i.id.toList y.id.toList || i.id.toList == y.id.toList) = false := by unfold upB at hu; rw [Bool.not_eq_true'] at hu; exact hu
                                  have HU2 := Lib.hid (show ∀ j a b, j + 1 < q + 1 + 1 → m.has[j]? = some a → m.has[j + 1]? = some b → upB a b = true from fun j a b hj ha hb => by
                                    by_cases e : j = q
                                    · subst e; rw [HY.out] at ha; rw [HI.out] at hb; cases ha; cases hb; exact hu
                                    · exact HU.out j a b (by omega) ha hb)
                                  clear hu
                                  refine wp_region_quiet_below (by kernel_rfl) (by kernel_rfl) ?_
                                  repeat (first | go_big_quiet_step (fail) | quiet_step (fail))
                                  refine wpQuiet_nil ?_
                                  intro w7 hw'
                                  have hb := regrown_below hw'
                                  clear hw' LA LAf
                                  clear s0 s1
                                  replace OA := Lib.hid (OA.out.later hb)
                                  replace BEL := Lib.hid (BEL.out.trans (Below.mono hb BEL.out.size))
                                  clear hb
                                  go_wp2_with fail
                                  go_roundw
                                  case rel => exact ⟨q + 1 + 1, by omega, by go_num, Lib.hid ⟨OA.out, BEL.out, HS2.out, HU2.out⟩⟩
                                  case measure => simp [intOf]; omega
                            · have E := Lib.hid (hadB_item HI.out (by rw [HIE.out]; exact Bool.eq_false_iff.2 hok))
                              have ways : d1 = false ∨ (d1 = true ∧ d2 = false) ∨ (d1 = true ∧ d2 = true ∧ ¬ 1 ≤ i.st) ∨ (d1 = true ∧ d2 = true ∧ 1 ≤ i.st ∧ ¬ i.st ≤ 1000000) := by
                                unfold inB at hok
                                cases d1 <;> cases d2 <;> simp at hok ⊢
                                omega
                              clear hok
                              rcases ways with rfl | ⟨rfl, rfl⟩ | ⟨rfl, rfl, g1⟩ | ⟨rfl, rfl, g1, g2⟩
                              all_goals
                                go_wp2_with (first
                                  | (go_at_call 49; (with_reducible refine (CN _).out.mono ?_); rintro e w8 ⟨rfl, rfl⟩)
                                  | (go_at_call 50; (with_reducible refine (CV _).out.mono ?_); rintro e w8 ⟨rfl, hb⟩; clear lA zA c0 c1 c2 c3 zb; replace OA := Lib.hid (OA.out.later hb); replace BEL := Lib.hid (BEL.out.trans (Below.mono hb BEL.out.size)); have lA := OA.out.cell; have zA := OA.out.lt; have zb := Nat.lt_of_lt_of_le hS0.out BEL.out.size; have c0 := HC.out _ BEL.out 0 _ rfl; have c1 := HC.out _ BEL.out 1 _ rfl; have c2 := HC.out _ BEL.out 2 _ rfl; have c3 := HC.out _ BEL.out 3 _ rfl; simp only [Nat.add_zero] at c0; clear hb)
                                  | fail)
                                go_ret
                                exact ⟨ret_bool (HRS.out.trans E.out).symm, BEL.out⟩
                          · have E := Lib.hid (show hadB m.has = true from hadB_all (l := m.has) (by rw [HLEN.out]; exact h6) (fun j a hj ha => HS.out j a (by rw [HLEN.out] at hj; omega) ha) (fun j a b hj ha hb => HU.out j a b (by rw [HLEN.out] at hj; omega) ha hb))
                            go_wp2_with fail
                            go_ret
                            exact ⟨ret_bool (HRS.out.trans E.out).symm, BEL.out⟩
                      · skip
                        have HRS := Lib.hid (show res = false by rw [HE.out, hst]; simp)
                        subst h9
                        clear HE HHL
                        have lA := OA.out.cell
                        have zA := OA.out.lt
                        go_enter Tryz.func13, Tryz.ntmps13
                        go_wp2_with (first
                          | (go_at_call 46; (with_reducible refine (CE _).out.mono ?_); rintro e w5 ⟨rfl, rfl⟩)
                          | (refine wpList_load_mid (by rfl) 44 _ (by rfl) w.heap.size 5 (by rfl) [.int .i64 m.f.op, .string m.f.text, .int .i64 m.f.n, .complex .f64 m.f.x m.f.y, .slice of_ m.f.kids.length cf] _ (by exact OA.out.part 5 _ (by rfl)) Tryz.underlying44 (by rfl) (by kernel_rfl) ?_)
                          | (refine wpList_load_mid (by rfl) 31 _ (by rfl) w.heap.size 10 (by rfl) (knA m.k.star (.slice ok_ m.k.l.length ck)).toList _ (by exact OA.out.part 10 _ (by rfl)) Tryz.underlying31 (by rfl) (by kernel_rfl) ?_)
                          | (go_at_call 47; refine (CP _ (HM.out.1.later BEL.out (Nat.le_refl _))).out.mono ?_; rintro e w6 ⟨rfl, hb⟩; clear lA zA; replace OA := Lib.hid (OA.out.later hb); replace BEL := Lib.hid (BEL.out.trans (Below.mono hb BEL.out.size)); have lA := OA.out.cell; have zA := OA.out.lt; clear hb)
                          | (go_at_call 48; refine (CK _ (HM.out.2.later BEL.out (Nat.le_refl _))).out.mono ?_; rintro e w7 ⟨rfl, hb⟩; clear lA zA; replace OA := Lib.hid (OA.out.later hb); replace BEL := Lib.hid (BEL.out.trans (Below.mono hb BEL.out.size)); have lA := OA.out.cell; have zA := OA.out.lt; clear hb)
                          | fail)
                        go_ret
                        exact ⟨ret_bool HRS.out.symm, BEL.out⟩
end Go.Proofs.YthbjgfennclidaaGreat
