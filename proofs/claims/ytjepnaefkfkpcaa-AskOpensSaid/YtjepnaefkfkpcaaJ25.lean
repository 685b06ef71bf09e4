/- Joined: AskC. -/
import Derived.Test.YtjepnaefkfkpcaaJ20
import Derived.Test.YtjepnaefkfkpcaaJ22
/- The code's Open of layer 11. Walked. -/
namespace Go.Proofs.Ytjepnaefkfkpcaa
set_option linter.unusedVariables false
set_option linter.unusedSimpArgs false
set_option maxRecDepth 100000
open Go Go.RowKit
set_option maxRecDepth 100000 in
set_option maxHeartbeats 8000000 in
theorem askOpen_calls (s : St) (fv sv ov kv : Value) (wth sid : Int) (w : World) (hS : StW w s fv sv ov kv) (hf : s.f.size ≤ 1000) (h1 : s.store.length ≤ 1000) (hl : s.k.l.length ≤ 10000) (hi : (flatI s.k.l).length ≤ 10000) :
    Calls Try.prog 9 #[stV s fv sv ov kv, .int .i64 wth, .int .i64 sid] w fun e w' => ∃ fv' kv' hv', e = .returned (.tuple #[.agg (ssA (askX s wth sid) nilV nilV nilV), .agg (mgA (askO s wth sid) fv' kv' hv' nilV)]) ∧ Sure (fun b => b < w.heap.size) w' (fun w => MgW w (askO s wth sid) fv' kv' hv' nilV) ∧ Below w.heap.size w w' := by
  have OA := Lib.hid (((Own.new w (stA s fv sv ov kv) 42).alloc (.cells ssZ 48)).alloc (.cells mgZ 51))
  have OX := Lib.hid ((Own.newAt (w.alloc (.cells (stA s fv sv ov kv) 42)) ssZ 48 (b := w.heap.size + 1) (by simp)).alloc (.cells mgZ 51))
  have OM := Lib.hid (Own.newAt ((w.alloc (.cells (stA s fv sv ov kv) 42)).alloc (.cells ssZ 48)) mgZ 51 (b := w.heap.size + 2) (by simp))
  have BEL := Lib.hid ((((Below.refl w.heap.size w).alloc (Nat.le_refl _) (.cells (stA s fv sv ov kv) 42)).alloc (by simp) (.cells ssZ 48)).alloc (by simp; omega) (.cells mgZ 51))
  have HS := Lib.hid hS
  have CF := fun w' h => Lib.hid (freWhole_calls s.f fv w' h hf)
  have CK := fun w' h => Lib.hid (freKnow_calls s.k kv w' h hl hi)
  have CH := fun w' h => Lib.hid (askHave_calls s.store sv w' h (by omega))
  clear hS hf h1 hl hi
  have l0 := OA.out.cell
  have z0 := OA.out.lt
  go_enter Try.func9, Try.ntmps9
  go_upto_region 1 with fail
  revert OA OX OM BEL
  generalize World.alloc (World.alloc (World.alloc _ _) _) _ = W1
  intro OA OX OM BEL
  clear l0 z0
  have l0 := OA.out.cell
  have z0 := OA.out.lt
  have O8 := Lib.hid (Own.new W1 ssZ 48)
  go_upto_region 2 with (refine wpList_store_mid (by rfl) 48 _ _ (by rfl) W1.heap.size 0 (ssA (askX s wth sid) nilV nilV nilV) (by rfl) (by rfl) (O8.out.there (by rfl)) (by kernel_rfl) (by simp [Value.oneCell']) ?_)
  have zs : w.heap.size + 2 < W1.heap.size := OM.out.lt
  have HB : Hid (Later W1 (World.setCells (W1.alloc (.cells ssZ 48)) W1.heap.size 0 (ssA (askX s wth sid) nilV nilV nilV).toList)) := Lib.hid (below_sets (Nat.le_refl _) _ _ ((Below.refl _ _).alloc (Nat.le_refl _) _))
  have OS := Lib.hid (O8.out.sets (ssA (askX s wth sid) nilV nilV nilV).toList (by rfl))
  clear l0 z0 O8
  revert HB OS
  generalize World.setCells _ _ _ _ = W2
  intro HB OS
  replace OA := Lib.hid (OA.out.later HB.out)
  replace OX := Lib.hid (OX.out.later HB.out)
  replace OM := Lib.hid (OM.out.later HB.out)
  replace BEL := Lib.hid (BEL.out.trans (Below.mono HB.out BEL.out.size))
  clear HB
  have zA : w.heap.size < W2.heap.size := OA.out.lt
  have zX : w.heap.size + 1 < W2.heap.size := OX.out.lt
  have zM : w.heap.size + 2 < W2.heap.size := OM.out.lt
  have zS : W1.heap.size < W2.heap.size := OS.out.lt
  generalize W1.heap.size = bs at *
  have BE2 := Lib.hid (Below.refl W2.heap.size W2)
  simp only [Act.put]
  go_cut [9] (fun s9 wx => ∃ (bm : Nat) (fv' kv' hv' : Value), s9 = .pointer (some ⟨bm, 0, none⟩) ∧ Hid (W2.heap.size ≤ bm ∧ Own wx bm (mgA (askO s wth sid) fv' kv' hv' nilV) 51 ∧ Sure (fun b => b < w.heap.size + 3) wx (fun w => MgW w (askO s wth sid) fv' kv' hv' nilV) ∧ Own wx (w.heap.size + 1) ssZ 48 ∧ Own wx (w.heap.size + 2) mgZ 51 ∧ Own wx bs (ssA (askX s wth sid) nilV nilV nilV) 48 ∧ Below w.heap.size w wx))
  case first =>
    refine monoN_start (T := fun k => W2.heap.size ≤ k) (D := fun k => k == 15) (by kernel_rfl) (fun wd hbd => ?_)
    replace OA := Lib.hid (OA.out.later hbd)
    replace OX := Lib.hid (OX.out.later hbd)
    replace OM := Lib.hid (OM.out.later hbd)
    replace OS := Lib.hid (OS.out.later hbd)
    replace BEL := Lib.hid (BEL.out.trans (Below.mono hbd BEL.out.size))
    replace BE2 := Lib.hid (BE2.out.trans (Below.mono hbd BE2.out.size))
    clear hbd
    refine monoN_stay (i := 0) (v := ?_) rfl (by kernel_rfl) (by kernel_rfl) (by kernel_rfl) (fun _ _ _ h => h) (Or.inl ⟨by rfl, ?_⟩) ?_
    rotate_left 1
    · (intro wL hL; go_simp; try with_reducible rfl)
    try simp only [Act.put, List.getElem_toArray, List.getElem_cons_zero, List.getElem_cons_succ, List.setIfInBounds_toArray, List.set_cons_zero, List.set_cons_succ]
    refine monoN_stay (i := 1) (v := ?_) rfl (by kernel_rfl) (by kernel_rfl) (by kernel_rfl) (fun _ _ _ h => h) (Or.inl ⟨by rfl, ?_⟩) ?_
    rotate_left 1
    · (intro wL hL; have lL := (OA.out.but hL (by have := zA; show ¬ W2.heap.size ≤ _; omega)).cell; have zL := (OA.out.but hL (by have := zA; show ¬ W2.heap.size ≤ _; omega)).lt; go_simp; try with_reducible rfl)
    try simp only [Act.put, List.getElem_toArray, List.getElem_cons_zero, List.getElem_cons_succ, List.setIfInBounds_toArray, List.set_cons_zero, List.set_cons_succ]
    refine monoN_stay (i := 2) (v := ?_) rfl (by kernel_rfl) (by kernel_rfl) (by kernel_rfl) (fun _ _ _ h => h) (Or.inl ⟨by rfl, ?_⟩) ?_
    rotate_left 1
    · (intro wL hL; go_simp; try with_reducible rfl)
    try simp only [Act.put, List.getElem_toArray, List.getElem_cons_zero, List.getElem_cons_succ, List.setIfInBounds_toArray, List.set_cons_zero, List.set_cons_succ]
    refine monoN_stay (i := 3) (v := ?_) rfl (by kernel_rfl) (by kernel_rfl) (by kernel_rfl) (fun _ _ _ h => h) (Or.inl ⟨by rfl, ?_⟩) ?_
    rotate_left 1
    · (intro wL hL; go_simp; try with_reducible rfl)
    try simp only [Act.put, List.getElem_toArray, List.getElem_cons_zero, List.getElem_cons_succ, List.setIfInBounds_toArray, List.set_cons_zero, List.set_cons_succ]
    refine monoN_stay (i := 4) (v := ?_) rfl (by kernel_rfl) (by kernel_rfl) (by kernel_rfl) (fun _ _ _ h => h) (Or.inl ⟨by rfl, ?_⟩) ?_
    rotate_left 1
    · (intro wL hL; go_simp; try with_reducible rfl)
    try simp only [Act.put, List.getElem_toArray, List.getElem_cons_zero, List.getElem_cons_succ, List.setIfInBounds_toArray, List.set_cons_zero, List.set_cons_succ]
    refine monoN_stay (i := 5) (v := .agg #[.int .i64 s.f.op, .string s.f.text, .int .i64 s.f.n, .complex .f64 s.f.x s.f.y, fv]) rfl (by kernel_rfl) (by kernel_rfl) (by kernel_rfl) (fun _ _ _ h => h) (Or.inl ⟨by rfl, fun wL hL => exec_load_mid 39 _ rfl (w.heap.size) 1 (by rfl) (#[.int .i64 s.f.op, .string s.f.text, .int .i64 s.f.n, .complex .f64 s.f.x s.f.y, fv] : Array Value).toList _ ((OA.out.but hL (by have := zA; show ¬ W2.heap.size ≤ _; omega)).part 1 _ (by rfl)) Try.underlying39 (by rfl) (by kernel_rfl)⟩) ?_
    try simp only [Act.put, List.getElem_toArray, List.getElem_cons_zero, List.getElem_cons_succ, List.setIfInBounds_toArray, List.set_cons_zero, List.set_cons_succ]
    refine monoN_stay (i := 7) (v := ?_) rfl (by kernel_rfl) (by kernel_rfl) (by kernel_rfl) (fun _ _ _ h => h) (Or.inl ⟨by rfl, ?_⟩) ?_
    rotate_left 1
    · (intro wL hL; go_simp; try with_reducible rfl)
    try simp only [Act.put, List.getElem_toArray, List.getElem_cons_zero, List.getElem_cons_succ, List.setIfInBounds_toArray, List.set_cons_zero, List.set_cons_succ]
    refine monoN_stay (i := 8) (v := .agg (knA s.k.star kv)) rfl (by kernel_rfl) (by kernel_rfl) (by kernel_rfl) (fun _ _ _ h => h) (Or.inl ⟨by rfl, fun wL hL => exec_load_mid 31 _ rfl (w.heap.size) 8 (by rfl) ((knA s.k.star kv) : Array Value).toList _ ((OA.out.but hL (by have := zA; show ¬ W2.heap.size ≤ _; omega)).part 8 _ (by rfl)) Try.underlying31 (by rfl) (by kernel_rfl)⟩) ?_
    try simp only [Act.put, List.getElem_toArray, List.getElem_cons_zero, List.getElem_cons_succ, List.setIfInBounds_toArray, List.set_cons_zero, List.set_cons_succ]
    refine monoN_stay (i := 10) (v := ?_) rfl (by kernel_rfl) (by kernel_rfl) (by kernel_rfl) (fun _ _ _ h => h) (Or.inl ⟨by rfl, ?_⟩) ?_
    rotate_left 1
    · (intro wL hL; go_simp; try with_reducible rfl)
    try simp only [Act.put, List.getElem_toArray, List.getElem_cons_zero, List.getElem_cons_succ, List.setIfInBounds_toArray, List.set_cons_zero, List.set_cons_succ]
    refine monoN_stay (i := 11) (v := ?_) rfl (by kernel_rfl) (by kernel_rfl) (by kernel_rfl) (fun _ _ _ h => h) (Or.inl ⟨by rfl, ?_⟩) ?_
    rotate_left 1
    · (intro wL hL; have lL := (OA.out.but hL (by have := zA; show ¬ W2.heap.size ≤ _; omega)).cell; have zL := (OA.out.but hL (by have := zA; show ¬ W2.heap.size ≤ _; omega)).lt; go_simp; try with_reducible rfl)
    try simp only [Act.put, List.getElem_toArray, List.getElem_cons_zero, List.getElem_cons_succ, List.setIfInBounds_toArray, List.set_cons_zero, List.set_cons_succ]
    refine monoN_r2 (i := 6) (j := 14) (by kernel_rfl) ?_ ?_
    · have z6OA := OA.out.lt
      have z6OX := OX.out.lt
      have z6OM := OM.out.lt
      have z6OS := OS.out.lt
      refine stepN_call (by rfl) (by rfl) (fun K hK => ?_)
      try simp only [List.getElem_toArray, List.getElem_cons_zero, List.getElem_cons_succ]
      (go_simp; go_at_call 24; (with_reducible refine (CF _ (HS.out.lf.later BEL.out (Nat.le_refl _))).out.mono ?_); rintro e wc ⟨v3, rfl, hl3, hb⟩; obtain ⟨o3, c3, rfl⟩ := lies_val hl3.lp; have SF := Lib.hid hl3.sure; clear hl3)
      try go_wp2_with fail
      refine hK.out _ _ (fun _ => hb) (But.of hb) ?_
      clear hK K
      replace OA := Lib.hid (OA.out.later hb)
      replace OX := Lib.hid (OX.out.later hb)
      replace OM := Lib.hid (OM.out.later hb)
      replace OS := Lib.hid (OS.out.later hb)
      replace BEL := Lib.hid (BEL.out.trans (Below.mono hb BEL.out.size))
      replace BE2 := Lib.hid (BE2.out.trans (Below.mono hb BE2.out.size))
      clear hb
      try simp only [Act.put, List.getElem_toArray, List.getElem_cons_zero, List.getElem_cons_succ, List.setIfInBounds_toArray, List.set_cons_zero, List.set_cons_succ]
      refine monoN_r2 (i := 9) (j := 14) (by kernel_rfl) ?_ ?_
      · have z9OA := OA.out.lt
        have z9OX := OX.out.lt
        have z9OM := OM.out.lt
        have z9OS := OS.out.lt
        refine stepN_call (by rfl) (by rfl) (fun K hK => ?_)
        try simp only [List.getElem_toArray, List.getElem_cons_zero, List.getElem_cons_succ]
        (go_simp; go_at_call 25; (with_reducible refine (CK _ (HS.out.lk.later BEL.out (Nat.le_refl _))).out.mono ?_); rintro e wc ⟨v4, rfl, hk4, hb⟩; obtain ⟨o4, c4, rfl⟩ := hk4.fr.val; have SK := Lib.hid hk4.sure; clear hk4)
        try go_wp2_with fail
        refine hK.out _ _ (fun _ => hb) (But.of hb) ?_
        clear hK K
        replace OA := Lib.hid (OA.out.later hb)
        replace OX := Lib.hid (OX.out.later hb)
        replace OM := Lib.hid (OM.out.later hb)
        replace OS := Lib.hid (OS.out.later hb)
        replace BEL := Lib.hid (BEL.out.trans (Below.mono hb BEL.out.size))
        replace BE2 := Lib.hid (BE2.out.trans (Below.mono hb BE2.out.size))
        replace SF := Lib.hid (SF.out.later hb)
        clear hb
        try simp only [Act.put, List.getElem_toArray, List.getElem_cons_zero, List.getElem_cons_succ, List.setIfInBounds_toArray, List.set_cons_zero, List.set_cons_succ]
        refine monoN_r2 (i := 12) (j := 14) (by kernel_rfl) ?_ ?_
        · have z12OA := OA.out.lt
          have z12OX := OX.out.lt
          have z12OM := OM.out.lt
          have z12OS := OS.out.lt
          refine stepN_call (by rfl) (by rfl) (fun K hK => ?_)
          try simp only [List.getElem_toArray, List.getElem_cons_zero, List.getElem_cons_succ]
          (go_simp; go_at_call 26; (with_reducible refine (CH _ (HS.out.ls.later BEL.out)).out.mono ?_); rintro e wc ⟨v5, rfl, ⟨o5, c5, rfl⟩, hh5, hb⟩; have SH := Lib.hid hh5; clear hh5)
          try go_wp2_with fail
          refine hK.out _ _ (fun _ => hb) (But.of hb) ?_
          clear hK K
          replace OA := Lib.hid (OA.out.later hb)
          replace OX := Lib.hid (OX.out.later hb)
          replace OM := Lib.hid (OM.out.later hb)
          replace OS := Lib.hid (OS.out.later hb)
          replace BEL := Lib.hid (BEL.out.trans (Below.mono hb BEL.out.size))
          replace BE2 := Lib.hid (BE2.out.trans (Below.mono hb BE2.out.size))
          replace SF := Lib.hid (SF.out.later hb)
          replace SK := Lib.hid (SK.out.later hb)
          clear hb
          try simp only [Act.put, List.getElem_toArray, List.getElem_cons_zero, List.getElem_cons_succ, List.setIfInBounds_toArray, List.set_cons_zero, List.set_cons_succ]
          refine monoN_stay (i := 13) (v := ?_) rfl (by kernel_rfl) (by kernel_rfl) (by kernel_rfl) (fun _ _ _ h => h) (Or.inl ⟨by rfl, ?_⟩) ?_
          rotate_left 1
          · (intro wL hL; go_simp; try with_reducible rfl)
          try simp only [Act.put, List.getElem_toArray, List.getElem_cons_zero, List.getElem_cons_succ, List.setIfInBounds_toArray, List.set_cons_zero, List.set_cons_succ]
          refine monoN_r1 (i := 14) (by kernel_rfl) ?_
          refine stepN_new (by rfl) (by rfl) (fun b => .pointer (some ⟨b, 0, none⟩)) mgZ 51 (by go_simp; try rfl) (fun bm wn hbm hb om => ?_)
          have zbm : W2.heap.size ≤ bm := Nat.le_trans BE2.out.size hbm
          replace OA := Lib.hid (OA.out.later hb)
          replace OX := Lib.hid (OX.out.later hb)
          replace OM := Lib.hid (OM.out.later hb)
          replace OS := Lib.hid (OS.out.later hb)
          replace BEL := Lib.hid (BEL.out.trans (Below.mono hb BEL.out.size))
          replace BE2 := Lib.hid (BE2.out.trans (Below.mono hb BE2.out.size))
          replace SF := Lib.hid (SF.out.fresh hb hbm)
          replace SK := Lib.hid (SK.out.fresh hb hbm)
          replace SH := Lib.hid (SH.out.fresh hb hbm)
          clear hb hbm
          have OB := Lib.hid om
          clear om
          try simp only [Act.put, List.getElem_toArray, List.getElem_cons_zero, List.getElem_cons_succ, List.setIfInBounds_toArray, List.set_cons_zero, List.set_cons_succ]
          refine monoN_r1 (i := 15) (by kernel_rfl) ?_
          refine stepN_store (by rfl) (by rfl) 51 _ _ (by rfl) (bm) (0) (mgA (askO s wth sid) (.slice o3 s.f.kids.length c3) (.slice o4 s.k.l.length c4) (.slice o5 s.store.length c5) nilV) (by rfl) (by rfl) OB.out (by simp) (by kernel_rfl) (by simp [Value.oneCell']) (by rfl) (zbm) (fun ws hs ho => ?_)
          replace OA := Lib.hid (OA.out.stored hs (by omega))
          replace OX := Lib.hid (OX.out.stored hs (by omega))
          replace OM := Lib.hid (OM.out.stored hs (by omega))
          replace OS := Lib.hid (OS.out.stored hs (by omega))
          replace BEL := Lib.hid (hs.bel (by omega) BEL.out)
          replace BE2 := Lib.hid (hs.bel (by omega) BE2.out)
          replace SF := Lib.hid (SF.out.stored hs (by first | exact Or.inr rfl | (show bm < _; omega)))
          replace SK := Lib.hid (SK.out.stored hs (by first | exact Or.inr rfl | (show bm < _; omega)))
          replace SH := Lib.hid (SH.out.stored hs (by first | exact Or.inr rfl | (show bm < _; omega)))
          replace OB := Lib.hid ho
          clear hs ho
          replace OB := Lib.hid (OB.out.whole (by rfl))
          try simp only [Act.put, List.getElem_toArray, List.getElem_cons_zero, List.getElem_cons_succ, List.setIfInBounds_toArray, List.set_cons_zero, List.set_cons_succ]
          refine monoN_done (by kernel_rfl) ?_ _
          go_wp2_with fail
          go_meet
          exact ⟨bm, _, _, _, rfl, Lib.hid ⟨zbm, OB.out, fun w2 h2 => ⟨SF.out.mono (T' := fun b => b < w.heap.size + 3) (fun b hq => by have hq' : b < w.heap.size + 3 := hq; first | exact Or.inl (show b < _ by omega) | (show b < _; omega)) w2 h2, SK.out.mono (T' := fun b => b < w.heap.size + 3) (fun b hq => by have hq' : b < w.heap.size + 3 := hq; first | exact Or.inl (show b < _ by omega) | (show b < _; omega)) w2 h2, SH.out.mono (T' := fun b => b < w.heap.size + 3) (fun b hq => by have hq' : b < w.heap.size + 3 := hq; first | exact Or.inl (show b < _ by omega) | (show b < _; omega)) w2 h2, GRow.nil⟩, OX.out, OM.out, OS.out, BEL.out⟩⟩
        · refine stepN_new (by rfl) (by rfl) (fun b => .pointer (some ⟨b, 0, none⟩)) mgZ 51 (by go_simp; try rfl) (fun bm wn hbm hb om => ?_)
          have zbm : W2.heap.size ≤ bm := Nat.le_trans BE2.out.size hbm
          replace OA := Lib.hid (OA.out.later hb)
          replace OX := Lib.hid (OX.out.later hb)
          replace OM := Lib.hid (OM.out.later hb)
          replace OS := Lib.hid (OS.out.later hb)
          replace BEL := Lib.hid (BEL.out.trans (Below.mono hb BEL.out.size))
          replace BE2 := Lib.hid (BE2.out.trans (Below.mono hb BE2.out.size))
          replace SF := Lib.hid (SF.out.fresh hb hbm)
          replace SK := Lib.hid (SK.out.fresh hb hbm)
          clear hb hbm
          have OB := Lib.hid om
          clear om
          try simp only [Act.put, List.getElem_toArray, List.getElem_cons_zero, List.getElem_cons_succ, List.setIfInBounds_toArray, List.set_cons_zero, List.set_cons_succ]
          refine monoN_r1 (i := 12) (by kernel_rfl) ?_
          have z12OA := OA.out.lt
          have z12OX := OX.out.lt
          have z12OM := OM.out.lt
          have z12OS := OS.out.lt
          have z12OB := OB.out.lt
          refine stepN_call (by rfl) (by rfl) (fun K hK => ?_)
          try simp only [List.getElem_toArray, List.getElem_cons_zero, List.getElem_cons_succ]
          (go_simp; go_at_call 26; (with_reducible refine (CH _ (HS.out.ls.later BEL.out)).out.mono ?_); rintro e wc ⟨v5, rfl, ⟨o5, c5, rfl⟩, hh5, hb⟩; have SH := Lib.hid hh5; clear hh5)
          try go_wp2_with fail
          refine hK.out _ _ (fun _ => hb) (But.of hb) ?_
          clear hK K
          replace OA := Lib.hid (OA.out.later hb)
          replace OX := Lib.hid (OX.out.later hb)
          replace OM := Lib.hid (OM.out.later hb)
          replace OS := Lib.hid (OS.out.later hb)
          replace OB := Lib.hid (OB.out.later hb)
          replace BEL := Lib.hid (BEL.out.trans (Below.mono hb BEL.out.size))
          replace BE2 := Lib.hid (BE2.out.trans (Below.mono hb BE2.out.size))
          replace SF := Lib.hid (SF.out.later hb)
          replace SK := Lib.hid (SK.out.later hb)
          clear hb
          try simp only [Act.put, List.getElem_toArray, List.getElem_cons_zero, List.getElem_cons_succ, List.setIfInBounds_toArray, List.set_cons_zero, List.set_cons_succ]
          refine monoN_stay (i := 13) (v := ?_) rfl (by kernel_rfl) (by kernel_rfl) (by kernel_rfl) (fun _ _ _ h => h) (Or.inl ⟨by rfl, ?_⟩) ?_
          rotate_left 1
          · (intro wL hL; go_simp; try with_reducible rfl)
          try simp only [Act.put, List.getElem_toArray, List.getElem_cons_zero, List.getElem_cons_succ, List.setIfInBounds_toArray, List.set_cons_zero, List.set_cons_succ]
          refine monoN_r1 (i := 15) (by kernel_rfl) ?_
          refine stepN_store (by rfl) (by rfl) 51 _ _ (by rfl) (bm) (0) (mgA (askO s wth sid) (.slice o3 s.f.kids.length c3) (.slice o4 s.k.l.length c4) (.slice o5 s.store.length c5) nilV) (by rfl) (by rfl) OB.out (by simp) (by kernel_rfl) (by simp [Value.oneCell']) (by rfl) (zbm) (fun ws hs ho => ?_)
          replace OA := Lib.hid (OA.out.stored hs (by omega))
          replace OX := Lib.hid (OX.out.stored hs (by omega))
          replace OM := Lib.hid (OM.out.stored hs (by omega))
          replace OS := Lib.hid (OS.out.stored hs (by omega))
          replace BEL := Lib.hid (hs.bel (by omega) BEL.out)
          replace BE2 := Lib.hid (hs.bel (by omega) BE2.out)
          replace SF := Lib.hid (SF.out.stored hs (by first | exact Or.inr rfl | (show bm < _; omega)))
          replace SK := Lib.hid (SK.out.stored hs (by first | exact Or.inr rfl | (show bm < _; omega)))
          replace SH := Lib.hid (SH.out.stored hs (by first | exact Or.inr rfl | (show bm < _; omega)))
          replace OB := Lib.hid ho
          clear hs ho
          replace OB := Lib.hid (OB.out.whole (by rfl))
          try simp only [Act.put, List.getElem_toArray, List.getElem_cons_zero, List.getElem_cons_succ, List.setIfInBounds_toArray, List.set_cons_zero, List.set_cons_succ]
          refine monoN_done (by kernel_rfl) ?_ _
          go_wp2_with fail
          go_meet
          exact ⟨bm, _, _, _, rfl, Lib.hid ⟨zbm, OB.out, fun w2 h2 => ⟨SF.out.mono (T' := fun b => b < w.heap.size + 3) (fun b hq => by have hq' : b < w.heap.size + 3 := hq; first | exact Or.inl (show b < _ by omega) | (show b < _; omega)) w2 h2, SK.out.mono (T' := fun b => b < w.heap.size + 3) (fun b hq => by have hq' : b < w.heap.size + 3 := hq; first | exact Or.inl (show b < _ by omega) | (show b < _; omega)) w2 h2, SH.out.mono (T' := fun b => b < w.heap.size + 3) (fun b hq => by have hq' : b < w.heap.size + 3 := hq; first | exact Or.inl (show b < _ by omega) | (show b < _; omega)) w2 h2, GRow.nil⟩, OX.out, OM.out, OS.out, BEL.out⟩⟩
      · refine stepN_new (by rfl) (by rfl) (fun b => .pointer (some ⟨b, 0, none⟩)) mgZ 51 (by go_simp; try rfl) (fun bm wn hbm hb om => ?_)
        have zbm : W2.heap.size ≤ bm := Nat.le_trans BE2.out.size hbm
        replace OA := Lib.hid (OA.out.later hb)
        replace OX := Lib.hid (OX.out.later hb)
        replace OM := Lib.hid (OM.out.later hb)
        replace OS := Lib.hid (OS.out.later hb)
        replace BEL := Lib.hid (BEL.out.trans (Below.mono hb BEL.out.size))
        replace BE2 := Lib.hid (BE2.out.trans (Below.mono hb BE2.out.size))
        replace SF := Lib.hid (SF.out.fresh hb hbm)
        clear hb hbm
        have OB := Lib.hid om
        clear om
        try simp only [Act.put, List.getElem_toArray, List.getElem_cons_zero, List.getElem_cons_succ, List.setIfInBounds_toArray, List.set_cons_zero, List.set_cons_succ]
        refine monoN_r1 (i := 9) (by kernel_rfl) ?_
        have z9OA := OA.out.lt
        have z9OX := OX.out.lt
        have z9OM := OM.out.lt
        have z9OS := OS.out.lt
        have z9OB := OB.out.lt
        refine stepN_call (by rfl) (by rfl) (fun K hK => ?_)
        try simp only [List.getElem_toArray, List.getElem_cons_zero, List.getElem_cons_succ]
        (go_simp; go_at_call 25; (with_reducible refine (CK _ (HS.out.lk.later BEL.out (Nat.le_refl _))).out.mono ?_); rintro e wc ⟨v4, rfl, hk4, hb⟩; obtain ⟨o4, c4, rfl⟩ := hk4.fr.val; have SK := Lib.hid hk4.sure; clear hk4)
        try go_wp2_with fail
        refine hK.out _ _ (fun _ => hb) (But.of hb) ?_
        clear hK K
        replace OA := Lib.hid (OA.out.later hb)
        replace OX := Lib.hid (OX.out.later hb)
        replace OM := Lib.hid (OM.out.later hb)
        replace OS := Lib.hid (OS.out.later hb)
        replace OB := Lib.hid (OB.out.later hb)
        replace BEL := Lib.hid (BEL.out.trans (Below.mono hb BEL.out.size))
        replace BE2 := Lib.hid (BE2.out.trans (Below.mono hb BE2.out.size))
        replace SF := Lib.hid (SF.out.later hb)
        clear hb
        try simp only [Act.put, List.getElem_toArray, List.getElem_cons_zero, List.getElem_cons_succ, List.setIfInBounds_toArray, List.set_cons_zero, List.set_cons_succ]
        refine monoN_r1 (i := 12) (by kernel_rfl) ?_
        have z12OA := OA.out.lt
        have z12OX := OX.out.lt
        have z12OM := OM.out.lt
        have z12OS := OS.out.lt
        have z12OB := OB.out.lt
        refine stepN_call (by rfl) (by rfl) (fun K hK => ?_)
        try simp only [List.getElem_toArray, List.getElem_cons_zero, List.getElem_cons_succ]
        (go_simp; go_at_call 26; (with_reducible refine (CH _ (HS.out.ls.later BEL.out)).out.mono ?_); rintro e wc ⟨v5, rfl, ⟨o5, c5, rfl⟩, hh5, hb⟩; have SH := Lib.hid hh5; clear hh5)
        try go_wp2_with fail
        refine hK.out _ _ (fun _ => hb) (But.of hb) ?_
        clear hK K
        replace OA := Lib.hid (OA.out.later hb)
        replace OX := Lib.hid (OX.out.later hb)
        replace OM := Lib.hid (OM.out.later hb)
        replace OS := Lib.hid (OS.out.later hb)
        replace OB := Lib.hid (OB.out.later hb)
        replace BEL := Lib.hid (BEL.out.trans (Below.mono hb BEL.out.size))
        replace BE2 := Lib.hid (BE2.out.trans (Below.mono hb BE2.out.size))
        replace SF := Lib.hid (SF.out.later hb)
        replace SK := Lib.hid (SK.out.later hb)
        clear hb
        try simp only [Act.put, List.getElem_toArray, List.getElem_cons_zero, List.getElem_cons_succ, List.setIfInBounds_toArray, List.set_cons_zero, List.set_cons_succ]
        refine monoN_stay (i := 13) (v := ?_) rfl (by kernel_rfl) (by kernel_rfl) (by kernel_rfl) (fun _ _ _ h => h) (Or.inl ⟨by rfl, ?_⟩) ?_
        rotate_left 1
        · (intro wL hL; go_simp; try with_reducible rfl)
        try simp only [Act.put, List.getElem_toArray, List.getElem_cons_zero, List.getElem_cons_succ, List.setIfInBounds_toArray, List.set_cons_zero, List.set_cons_succ]
        refine monoN_r1 (i := 15) (by kernel_rfl) ?_
        refine stepN_store (by rfl) (by rfl) 51 _ _ (by rfl) (bm) (0) (mgA (askO s wth sid) (.slice o3 s.f.kids.length c3) (.slice o4 s.k.l.length c4) (.slice o5 s.store.length c5) nilV) (by rfl) (by rfl) OB.out (by simp) (by kernel_rfl) (by simp [Value.oneCell']) (by rfl) (zbm) (fun ws hs ho => ?_)
        replace OA := Lib.hid (OA.out.stored hs (by omega))
        replace OX := Lib.hid (OX.out.stored hs (by omega))
        replace OM := Lib.hid (OM.out.stored hs (by omega))
        replace OS := Lib.hid (OS.out.stored hs (by omega))
        replace BEL := Lib.hid (hs.bel (by omega) BEL.out)
        replace BE2 := Lib.hid (hs.bel (by omega) BE2.out)
        replace SF := Lib.hid (SF.out.stored hs (by first | exact Or.inr rfl | (show bm < _; omega)))
        replace SK := Lib.hid (SK.out.stored hs (by first | exact Or.inr rfl | (show bm < _; omega)))
        replace SH := Lib.hid (SH.out.stored hs (by first | exact Or.inr rfl | (show bm < _; omega)))
        replace OB := Lib.hid ho
        clear hs ho
        replace OB := Lib.hid (OB.out.whole (by rfl))
        try simp only [Act.put, List.getElem_toArray, List.getElem_cons_zero, List.getElem_cons_succ, List.setIfInBounds_toArray, List.set_cons_zero, List.set_cons_succ]
        refine monoN_done (by kernel_rfl) ?_ _
        go_wp2_with fail
        go_meet
        exact ⟨bm, _, _, _, rfl, Lib.hid ⟨zbm, OB.out, fun w2 h2 => ⟨SF.out.mono (T' := fun b => b < w.heap.size + 3) (fun b hq => by have hq' : b < w.heap.size + 3 := hq; first | exact Or.inl (show b < _ by omega) | (show b < _; omega)) w2 h2, SK.out.mono (T' := fun b => b < w.heap.size + 3) (fun b hq => by have hq' : b < w.heap.size + 3 := hq; first | exact Or.inl (show b < _ by omega) | (show b < _; omega)) w2 h2, SH.out.mono (T' := fun b => b < w.heap.size + 3) (fun b hq => by have hq' : b < w.heap.size + 3 := hq; first | exact Or.inl (show b < _ by omega) | (show b < _; omega)) w2 h2, GRow.nil⟩, OX.out, OM.out, OS.out, BEL.out⟩⟩
    · refine stepN_new (by rfl) (by rfl) (fun b => .pointer (some ⟨b, 0, none⟩)) mgZ 51 (by go_simp; try rfl) (fun bm wn hbm hb om => ?_)
      have zbm : W2.heap.size ≤ bm := Nat.le_trans BE2.out.size hbm
      replace OA := Lib.hid (OA.out.later hb)
      replace OX := Lib.hid (OX.out.later hb)
      replace OM := Lib.hid (OM.out.later hb)
      replace OS := Lib.hid (OS.out.later hb)
      replace BEL := Lib.hid (BEL.out.trans (Below.mono hb BEL.out.size))
      replace BE2 := Lib.hid (BE2.out.trans (Below.mono hb BE2.out.size))
      clear hb hbm
      have OB := Lib.hid om
      clear om
      try simp only [Act.put, List.getElem_toArray, List.getElem_cons_zero, List.getElem_cons_succ, List.setIfInBounds_toArray, List.set_cons_zero, List.set_cons_succ]
      refine monoN_r1 (i := 6) (by kernel_rfl) ?_
      have z6OA := OA.out.lt
      have z6OX := OX.out.lt
      have z6OM := OM.out.lt
      have z6OS := OS.out.lt
      have z6OB := OB.out.lt
      refine stepN_call (by rfl) (by rfl) (fun K hK => ?_)
      try simp only [List.getElem_toArray, List.getElem_cons_zero, List.getElem_cons_succ]
      (go_simp; go_at_call 24; (with_reducible refine (CF _ (HS.out.lf.later BEL.out (Nat.le_refl _))).out.mono ?_); rintro e wc ⟨v3, rfl, hl3, hb⟩; obtain ⟨o3, c3, rfl⟩ := lies_val hl3.lp; have SF := Lib.hid hl3.sure; clear hl3)
      try go_wp2_with fail
      refine hK.out _ _ (fun _ => hb) (But.of hb) ?_
      clear hK K
      replace OA := Lib.hid (OA.out.later hb)
      replace OX := Lib.hid (OX.out.later hb)
      replace OM := Lib.hid (OM.out.later hb)
      replace OS := Lib.hid (OS.out.later hb)
      replace OB := Lib.hid (OB.out.later hb)
      replace BEL := Lib.hid (BEL.out.trans (Below.mono hb BEL.out.size))
      replace BE2 := Lib.hid (BE2.out.trans (Below.mono hb BE2.out.size))
      clear hb
      try simp only [Act.put, List.getElem_toArray, List.getElem_cons_zero, List.getElem_cons_succ, List.setIfInBounds_toArray, List.set_cons_zero, List.set_cons_succ]
      refine monoN_r1 (i := 9) (by kernel_rfl) ?_
      have z9OA := OA.out.lt
      have z9OX := OX.out.lt
      have z9OM := OM.out.lt
      have z9OS := OS.out.lt
      have z9OB := OB.out.lt
      refine stepN_call (by rfl) (by rfl) (fun K hK => ?_)
      try simp only [List.getElem_toArray, List.getElem_cons_zero, List.getElem_cons_succ]
      (go_simp; go_at_call 25; (with_reducible refine (CK _ (HS.out.lk.later BEL.out (Nat.le_refl _))).out.mono ?_); rintro e wc ⟨v4, rfl, hk4, hb⟩; obtain ⟨o4, c4, rfl⟩ := hk4.fr.val; have SK := Lib.hid hk4.sure; clear hk4)
      try go_wp2_with fail
      refine hK.out _ _ (fun _ => hb) (But.of hb) ?_
      clear hK K
      replace OA := Lib.hid (OA.out.later hb)
      replace OX := Lib.hid (OX.out.later hb)
      replace OM := Lib.hid (OM.out.later hb)
      replace OS := Lib.hid (OS.out.later hb)
      replace OB := Lib.hid (OB.out.later hb)
      replace BEL := Lib.hid (BEL.out.trans (Below.mono hb BEL.out.size))
      replace BE2 := Lib.hid (BE2.out.trans (Below.mono hb BE2.out.size))
      replace SF := Lib.hid (SF.out.later hb)
      clear hb
      try simp only [Act.put, List.getElem_toArray, List.getElem_cons_zero, List.getElem_cons_succ, List.setIfInBounds_toArray, List.set_cons_zero, List.set_cons_succ]
      refine monoN_r1 (i := 12) (by kernel_rfl) ?_
      have z12OA := OA.out.lt
      have z12OX := OX.out.lt
      have z12OM := OM.out.lt
      have z12OS := OS.out.lt
      have z12OB := OB.out.lt
      refine stepN_call (by rfl) (by rfl) (fun K hK => ?_)
      try simp only [List.getElem_toArray, List.getElem_cons_zero, List.getElem_cons_succ]
      (go_simp; go_at_call 26; (with_reducible refine (CH _ (HS.out.ls.later BEL.out)).out.mono ?_); rintro e wc ⟨v5, rfl, ⟨o5, c5, rfl⟩, hh5, hb⟩; have SH := Lib.hid hh5; clear hh5)
      try go_wp2_with fail
      refine hK.out _ _ (fun _ => hb) (But.of hb) ?_
      clear hK K
      replace OA := Lib.hid (OA.out.later hb)
      replace OX := Lib.hid (OX.out.later hb)
      replace OM := Lib.hid (OM.out.later hb)
      replace OS := Lib.hid (OS.out.later hb)
      replace OB := Lib.hid (OB.out.later hb)
      replace BEL := Lib.hid (BEL.out.trans (Below.mono hb BEL.out.size))
      replace BE2 := Lib.hid (BE2.out.trans (Below.mono hb BE2.out.size))
      replace SF := Lib.hid (SF.out.later hb)
      replace SK := Lib.hid (SK.out.later hb)
      clear hb
      try simp only [Act.put, List.getElem_toArray, List.getElem_cons_zero, List.getElem_cons_succ, List.setIfInBounds_toArray, List.set_cons_zero, List.set_cons_succ]
      refine monoN_stay (i := 13) (v := ?_) rfl (by kernel_rfl) (by kernel_rfl) (by kernel_rfl) (fun _ _ _ h => h) (Or.inl ⟨by rfl, ?_⟩) ?_
      rotate_left 1
      · (intro wL hL; go_simp; try with_reducible rfl)
      try simp only [Act.put, List.getElem_toArray, List.getElem_cons_zero, List.getElem_cons_succ, List.setIfInBounds_toArray, List.set_cons_zero, List.set_cons_succ]
      refine monoN_r1 (i := 15) (by kernel_rfl) ?_
      refine stepN_store (by rfl) (by rfl) 51 _ _ (by rfl) (bm) (0) (mgA (askO s wth sid) (.slice o3 s.f.kids.length c3) (.slice o4 s.k.l.length c4) (.slice o5 s.store.length c5) nilV) (by rfl) (by rfl) OB.out (by simp) (by kernel_rfl) (by simp [Value.oneCell']) (by rfl) (zbm) (fun ws hs ho => ?_)
      replace OA := Lib.hid (OA.out.stored hs (by omega))
      replace OX := Lib.hid (OX.out.stored hs (by omega))
      replace OM := Lib.hid (OM.out.stored hs (by omega))
      replace OS := Lib.hid (OS.out.stored hs (by omega))
      replace BEL := Lib.hid (hs.bel (by omega) BEL.out)
      replace BE2 := Lib.hid (hs.bel (by omega) BE2.out)
      replace SF := Lib.hid (SF.out.stored hs (by first | exact Or.inr rfl | (show bm < _; omega)))
      replace SK := Lib.hid (SK.out.stored hs (by first | exact Or.inr rfl | (show bm < _; omega)))
      replace SH := Lib.hid (SH.out.stored hs (by first | exact Or.inr rfl | (show bm < _; omega)))
      replace OB := Lib.hid ho
      clear hs ho
      replace OB := Lib.hid (OB.out.whole (by rfl))
      try simp only [Act.put, List.getElem_toArray, List.getElem_cons_zero, List.getElem_cons_succ, List.setIfInBounds_toArray, List.set_cons_zero, List.set_cons_succ]
      refine monoN_done (by kernel_rfl) ?_ _
      go_wp2_with fail
      go_meet
      exact ⟨bm, _, _, _, rfl, Lib.hid ⟨zbm, OB.out, fun w2 h2 => ⟨SF.out.mono (T' := fun b => b < w.heap.size + 3) (fun b hq => by have hq' : b < w.heap.size + 3 := hq; first | exact Or.inl (show b < _ by omega) | (show b < _; omega)) w2 h2, SK.out.mono (T' := fun b => b < w.heap.size + 3) (fun b hq => by have hq' : b < w.heap.size + 3 := hq; first | exact Or.inl (show b < _ by omega) | (show b < _; omega)) w2 h2, SH.out.mono (T' := fun b => b < w.heap.size + 3) (fun b hq => by have hq' : b < w.heap.size + 3 := hq; first | exact Or.inl (show b < _ by omega) | (show b < _; omega)) w2 h2, GRow.nil⟩, OX.out, OM.out, OS.out, BEL.out⟩⟩
  case rest =>
    obtain ⟨bm, fv4, kv4, hv4, rfl, HR⟩ := hcut
    generalize wc = wq at *
    obtain ⟨zbm, ob_, sm_, ox_, om_, os_, bel_⟩ := HR.out
    clear HR OX OM OA OS BEL CF CK CH
    obtain ⟨o3, c3, rfl⟩ := lies_val sm_.now.lf
    obtain ⟨o4, c4, rfl⟩ := sm_.now.lk.val
    obtain ⟨o5, c5, _, _, rfl, _⟩ := sm_.now.lh
    have OB := Lib.hid ob_
    have SM := Lib.hid sm_
    have OX := Lib.hid ox_
    have OM := Lib.hid om_
    have OS := Lib.hid os_
    have BEL := Lib.hid bel_
    clear ob_ sm_ ox_ om_ os_ bel_
    have n1 : w.heap.size + 1 ≠ w.heap.size + 2 := by omega
    go_upto_region 3 with fail
    refine monoN_start (T := fun k => k = w.heap.size + 1 ∨ k = w.heap.size + 2) (D := fun k => k == 2 || k == 3) (by kernel_rfl) (fun wd hbd => ?_)
    replace OX := Lib.hid (OX.out.later hbd)
    replace OM := Lib.hid (OM.out.later hbd)
    replace OS := Lib.hid (OS.out.later hbd)
    replace OB := Lib.hid (OB.out.later hbd)
    replace BEL := Lib.hid (BEL.out.trans (Below.mono hbd BEL.out.size))
    replace SM := Lib.hid (SM.out.later hbd)
    clear hbd
    refine monoN_stay (i := 0) (v := .agg (ssA (askX s wth sid) nilV nilV nilV)) rfl (by kernel_rfl) (by kernel_rfl) (by kernel_rfl) (fun _ _ _ h => h) (Or.inl ⟨by rfl, fun wL hL => exec_load_mid 48 _ rfl (bs) 0 (by rfl) ((ssA (askX s wth sid) nilV nilV nilV) : Array Value).toList _ ((OS.out.but hL (by show ¬ (_ ∨ _); omega)).part 0 _ (by rfl)) Try.underlying48 (by rfl) (by kernel_rfl)⟩) ?_
    try simp only [Act.put, List.getElem_toArray, List.getElem_cons_zero, List.getElem_cons_succ, List.setIfInBounds_toArray, List.set_cons_zero, List.set_cons_succ]
    refine monoN_stay (i := 1) (v := .agg (mgA (askO s wth sid) (.slice o3 s.f.kids.length c3) (.slice o4 s.k.l.length c4) (.slice o5 s.store.length c5) nilV)) rfl (by kernel_rfl) (by kernel_rfl) (by kernel_rfl) (fun _ _ _ h => h) (Or.inl ⟨by rfl, fun wL hL => exec_load_mid 51 _ rfl (bm) 0 (by rfl) ((mgA (askO s wth sid) (.slice o3 s.f.kids.length c3) (.slice o4 s.k.l.length c4) (.slice o5 s.store.length c5) nilV) : Array Value).toList _ ((OB.out.but hL (by show ¬ (_ ∨ _); omega)).part 0 _ (by rfl)) Try.underlying51 (by rfl) (by kernel_rfl)⟩) ?_
    try simp only [Act.put, List.getElem_toArray, List.getElem_cons_zero, List.getElem_cons_succ, List.setIfInBounds_toArray, List.set_cons_zero, List.set_cons_succ]
    refine monoN_r1 (i := 2) (by kernel_rfl) ?_
    refine stepN_store (by rfl) (by rfl) 48 _ _ (by rfl) (w.heap.size + 1) (0) (ssA (askX s wth sid) nilV nilV nilV) (by rfl) (by rfl) OX.out (by simp) (by kernel_rfl) (by simp [Value.oneCell']) (by rfl) (Or.inl rfl) (fun ws hs ho => ?_)
    replace OM := Lib.hid (OM.out.stored hs (by omega))
    replace OS := Lib.hid (OS.out.stored hs (by omega))
    replace OB := Lib.hid (OB.out.stored hs (by omega))
    replace BEL := Lib.hid (hs.bel (by omega) BEL.out)
    replace SM := Lib.hid (SM.out.stored hs (by show _ < _; omega))
    replace OX := Lib.hid ho
    clear hs ho
    replace OX := Lib.hid (OX.out.whole (by rfl))
    try simp only [Act.put, List.getElem_toArray, List.getElem_cons_zero, List.getElem_cons_succ, List.setIfInBounds_toArray, List.set_cons_zero, List.set_cons_succ]
    refine monoN_r1 (i := 3) (by kernel_rfl) ?_
    refine stepN_store (by rfl) (by rfl) 51 _ _ (by rfl) (w.heap.size + 2) (0) (mgA (askO s wth sid) (.slice o3 s.f.kids.length c3) (.slice o4 s.k.l.length c4) (.slice o5 s.store.length c5) nilV) (by rfl) (by rfl) OM.out (by simp) (by kernel_rfl) (by simp [Value.oneCell']) (by rfl) (Or.inr rfl) (fun ws hs ho => ?_)
    replace OX := Lib.hid (OX.out.stored hs (by omega))
    replace OS := Lib.hid (OS.out.stored hs (by omega))
    replace OB := Lib.hid (OB.out.stored hs (by omega))
    replace BEL := Lib.hid (hs.bel (by omega) BEL.out)
    replace SM := Lib.hid (SM.out.stored hs (by show _ < _; omega))
    replace OM := Lib.hid ho
    clear hs ho
    replace OM := Lib.hid (OM.out.whole (by rfl))
    try simp only [Act.put, List.getElem_toArray, List.getElem_cons_zero, List.getElem_cons_succ, List.setIfInBounds_toArray, List.set_cons_zero, List.set_cons_succ]
    refine monoN_done (by kernel_rfl) ?_ _
    go_wp2_with fail
    exact ret_cell2 (by rfl) (by rfl) (by rfl) (l := (ssA (askX s wth sid) nilV nilV nilV).toList) (l' := (mgA (askO s wth sid) (.slice o3 s.f.kids.length c3) (.slice o4 s.k.l.length c4) (.slice o5 s.store.length c5) nilV).toList) OX.out.range Try.underlying48 (by rfl) (by kernel_rfl) OM.out.range Try.underlying51 (by rfl) (by kernel_rfl) rfl ⟨_, _, _, rfl, SM.out.mono (fun b hq => by have hq' : b < w.heap.size := hq; show b < _; omega), BEL.out⟩
end Go.Proofs.Ytjepnaefkfkpcaa
