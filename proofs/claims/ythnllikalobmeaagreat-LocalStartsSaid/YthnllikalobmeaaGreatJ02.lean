/- Joined: VecI, VecRep, VecHas, Set8. -/
import Derived.Test.YthnllikalobmeaaGreatJ01
namespace Go.Proofs.YthnllikalobmeaaGreat
set_option linter.unusedVariables false
set_option linter.unusedSimpArgs false
set_option maxRecDepth 100000
set_option maxHeartbeats 8000000
open Go.RowKit
theorem z0u (A:Nat → Int) (w:World):(Instr.index 28 (vecV A) (.int .i64 0)).run Tryz.prog w = .ok (.int .i64 (A 0)) w:=by kernel_rfl
theorem z0v (A:Nat → Int) (w:World):(Instr.index 28 (vecV A) (.int .i64 1)).run Tryz.prog w = .ok (.int .i64 (A 1)) w:=by kernel_rfl
theorem z0w (A:Nat → Int) (w:World):(Instr.index 28 (vecV A) (.int .i64 2)).run Tryz.prog w = .ok (.int .i64 (A 2)) w:=by kernel_rfl
theorem z0x (A:Nat → Int) (w:World):(Instr.index 28 (vecV A) (.int .i64 3)).run Tryz.prog w = .ok (.int .i64 (A 3)) w:=by kernel_rfl
theorem z0y (A:Nat → Int) (w:World):(Instr.index 28 (vecV A) (.int .i64 4)).run Tryz.prog w = .ok (.int .i64 (A 4)) w:=by kernel_rfl
theorem z0z (A:Nat → Int) (w:World):(Instr.index 28 (vecV A) (.int .i64 5)).run Tryz.prog w = .ok (.int .i64 (A 5)) w:=by kernel_rfl
theorem z00 (A:Nat → Int) (w:World):(Instr.index 28 (vecV A) (.int .i64 6)).run Tryz.prog w = .ok (.int .i64 (A 6)) w:=by kernel_rfl
theorem z01 (A:Nat → Int) (w:World):(Instr.index 28 (vecV A) (.int .i64 7)).run Tryz.prog w = .ok (.int .i64 (A 7)) w:=by kernel_rfl
theorem idx8 (A:Nat → Int) {k:Nat} (h:k < 8) (w:World):(Instr.index 28 (vecV A) (.int .i64 (k:Int))).run Tryz.prog w = .ok (.int .i64 (A k)) w:=by
 match k,h with
 | 0,_=>exact z0u A w
 | 1,_=>exact z0v A w
 | 2,_=>exact z0w A w
 | 3,_=>exact z0x A w
 | 4,_=>exact z0y A w
 | 5,_=>exact z0z A w
 | 6,_=>exact z00 A w
 | 7,_=>exact z01 A w
def repB (r:Int):Bool:=decide (1 ≤ r) && decide (r ≤ 8)
theorem zhq (r:Int) (w:World) :
   Calls Tryz.prog 107 #[.int .i64 r] w fun e w'=>e = .returned (.bool (repB r)) ∧ w' = w:=by
 unfold repB
 cases g1:decide (1 ≤ r)
 all_goals
   cases g2:decide (r ≤ 8)
   all_goals
     go_enter Tryz.func107,Tryz.ntmps107
     go_wp2_with fail
     go_ret
     simp
theorem znn (r:Int) (w:World) :
   Calls Tryz.prog 107 #[.int .i64 r] w fun e w'=>e = .returned (.bool (repB r)) ∧ Below w.heap.size w w' :=
 (zhq r w).mono (by rintro e w' ⟨h,rfl⟩;exact ⟨h,Below.refl _ _⟩)
theorem zvf {r:Int} (h:r < 1 ∨ 8 < r):repB r = false:=by
 unfold repB
 rcases h with h | h
 · rw [show decide (1 ≤ r) = false from decide_eq_false (by omega)];rfl
 · rw [show decide (r ≤ 8) = false from decide_eq_false (by omega)];simp
theorem zru {k:Nat} (h:k < 8):repB ((k:Int) + 1) = true:=by
 unfold repB
 rw [show decide (1 ≤ (k:Int) + 1) = true from decide_eq_true (by omega),show decide ((k:Int) + 1 ≤ 8) = true from decide_eq_true (by omega)]
 rfl
theorem zzf {A:Nat → Int} {r c:Int} (h:r < 1 ∨ 8 < r):hasV A r c = false:=by
 unfold hasV
 rw [zli h]
 by_cases h1:1 ≤ c
 · rw [show decide (c ≤ 0) = false from decide_eq_false (by omega)];simp
 · rw [decide_eq_false h1];rfl
theorem zim (A:Nat → Int) (r c:Int) (w:World) :
   Calls Tryz.prog 60 #[vecV A,.agg #[.int .i64 r,.int .i64 c]] w fun e w'=>e = .returned (.bool (hasV A r c)) ∧ Below w.heap.size w w':=by
 have G1:=Lib.hid ((Has.new w (arr8 A) 28).alloc (.cells #[.int .i64 r,.int .i64 c] 67))
 have G2:=Lib.hid ((Own.newAt (w.alloc (.cells (arr8 A) 28)) #[.int .i64 r,.int .i64 c] 67 (b:=w.heap.size + 1) (by simp)).has)
 have LA:=fun dd os o=>G1.out.regrown dd os o
 have LB:=fun dd os o=>G2.out.regrown dd os o
 have m:=fun dd os=>Lib.hid (Calls.regrown_of (znn r (Sort.grow (redrawn ((w.alloc (.cells (arr8 A) 28)).alloc (.cells #[.int .i64 r,.int .i64 c] 67)) dd) os)))
 by_cases h:r < 1 ∨ 8 < r
 · have E:=Lib.hid (zzf (A:=A) (c:=c) h)
   have e:=zvf h
   clear h
   rw [e] at m
   clear e
   cases hg:decide (1 ≤ c)
   all_goals
     go_enter Tryz.func60,Tryz.ntmps60
     go_wp2_with fail
     refine wp_region_quiet_below (by kernel_rfl) (by kernel_rfl) ?_
     repeat (first | go_big_quiet_step ((with_reducible exact (m _ _).out)) | quiet_step (with_reducible exact (m _ _).out))
     refine wpQuiet_nil ?_
     intro w7 hw'
     have hb':=Lib.hid (zac hw')
     clear hw'
     go_wp2_with fail
     go_ret
     exact ⟨zaa E.out.symm,zai (zai hb'.out)⟩
 · obtain ⟨k,rfl⟩:∃ k:Nat,r = (k:Int) + 1:=⟨(r - 1).toNat,by omega⟩
   have hk:k < 8:=by omega
   clear h
   have e:=zru hk
   rw [e] at m
   clear e
   have E:=Lib.hid (show hasV A ((k:Int) + 1) c = (decide (1 ≤ c) && decide (c ≤ A k)) by unfold hasV;rw [ztz hk])
   have g3:(k:Int) + 1 - 1 = (k:Int):=by omega
   have LC:=fun dd os=>(G1.out.regrown dd os k).trans (zbo A hk)
   clear LA
   have k0:(0:Int) ≤ (k:Int):=by omega
   have k1:(k:Int) < 8:=by omega
   generalize hasV A ((k:Int) + 1) c = R at *
   cases hg:decide (1 ≤ c)
   all_goals
     go_enter Tryz.func60,Tryz.ntmps60
     go_wp2_with fail
     refine wp_region_quiet_below (by kernel_rfl) (by kernel_rfl) ?_
     repeat (first | go_big_quiet_step ((with_reducible exact (m _ _).out)) | quiet_step (with_reducible exact (m _ _).out))
     refine wpQuiet_nil ?_
     intro w7 hw'
     have hb':=Lib.hid (zac hw')
     clear hw'
     go_wp2_with fail
     go_ret
     exact ⟨zaa (by rw [E.out,hg];simp),zai (zai hb'.out)⟩
def st8 (X:World) (b:Nat) (c0 c1 c2 c3 c4 c5 c6 c7:Value):World:=((((((((X.setCell ⟨b,0,none⟩ c0).setCell ⟨b,1,none⟩ c1).setCell ⟨b,2,none⟩ c2).setCell ⟨b,3,none⟩ c3).setCell ⟨b,4,none⟩ c4).setCell ⟨b,5,none⟩ c5).setCell ⟨b,6,none⟩ c6).setCell ⟨b,7,none⟩ c7)
theorem z2g (z0 z1 z2 z3 z4 z5 z6 z7 c0 c1 c2 c3 c4 c5 c6 c7:Value):(((((((((#[z0,z1,z2,z3,z4,z5,z6,z7]:Array Value).setIfInBounds 0 c0).setIfInBounds 1 c1).setIfInBounds 2 c2).setIfInBounds 3 c3).setIfInBounds 4 c4).setIfInBounds 5 c5).setIfInBounds 6 c6).setIfInBounds 7 c7) = #[c0,c1,c2,c3,c4,c5,c6,c7]:=by simp
theorem zbl {X:World} {b:Nat} {z0 z1 z2 z3 z4 z5 z6 z7:Value} {T:TypeId} (o:Own X b #[z0,z1,z2,z3,z4,z5,z6,z7] T) (c0 c1 c2 c3 c4 c5 c6 c7:Value):Own (st8 X b c0 c1 c2 c3 c4 c5 c6 c7) b #[c0,c1,c2,c3,c4,c5,c6,c7] T:=by
 have h:=((((((((o.set 0 c0).set 1 c1).set 2 c2).set 3 c3).set 4 c4).set 5 c5).set 6 c6).set 7 c7)
 rw [z2g] at h
 exact h
theorem za3 {w X:World} {B b:Nat} (hb:Below B w X) (hp:B ≤ b) (c0 c1 c2 c3 c4 c5 c6 c7:Value):Below B w (st8 X b c0 c1 c2 c3 c4 c5 c6 c7):=by
 unfold st8
 exact ((((((((hb.setCell (p:=⟨b,0,none⟩) hp c0).setCell (p:=⟨b,1,none⟩) hp c1).setCell (p:=⟨b,2,none⟩) hp c2).setCell (p:=⟨b,3,none⟩) hp c3).setCell (p:=⟨b,4,none⟩) hp c4).setCell (p:=⟨b,5,none⟩) hp c5).setCell (p:=⟨b,6,none⟩) hp c6).setCell (p:=⟨b,7,none⟩) hp c7)
end Go.Proofs.YthnllikalobmeaaGreat
