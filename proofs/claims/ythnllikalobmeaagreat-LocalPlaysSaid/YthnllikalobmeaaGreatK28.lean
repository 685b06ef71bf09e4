/- Joined: OpenSt, LocH, KPlS, KConc. -/
import Derived.Test.YthnllikalobmeaaGreatK17
import Derived.Test.YthnllikalobmeaaGreatK16
import Derived.Test.YthnllikalobmeaaGreatK23
import Derived.Test.YthnllikalobmeaaGreatK18
import Derived.Test.YthnllikalobmeaaGreatK05
import Derived.Deep.RegionHeld3
import Derived.Test.YthnllikalobmeaaGreatK13
import Derived.Test.YthnllikalobmeaaGreatK19
import Derived.Shelf.Spec.SlicesGrow
import Derived.Lib.AppendZeros
namespace Go.Proofs.YthnllikalobmeaaGreat
set_option linter.unusedVariables false
set_option linter.unusedSimpArgs false
set_option maxRecDepth 100000
set_option maxHeartbeats 8000000
open Go.ChangeShapes Go.WideShapes Go.ChangeAt Go.RowKit Go.Deep
structure SiW (w:World) (s:St) (fv sv ov kv:Value):Prop where
 lf:LT w s.f fv
 ls:Row 9 rc w s.store sv
 lo:Row 9 rc w s.out ov
 lk:FrW w s.k.l kv
theorem SiW.later {w w':World} {s:St} {fv sv ov kv:Value} (h:SiW w s fv sv ov kv) (hb:Below w.heap.size w w'):SiW w' s fv sv ov kv :=
 ⟨h.lf.later hb (Nat.le_refl _),h.ls.later hb,h.lo.later hb,h.lk.later hb (Nat.le_refl _)⟩
theorem SiW.alloc {w:World} {s:St} {fv sv ov kv:Value} (h:SiW w s fv sv ov kv) (o:Obj):SiW (w.alloc o) s fv sv ov kv:=h.later ((Below.refl _ _).alloc (Nat.le_refl _) _)
theorem SiW.drew {w:World} {s:St} {fv sv ov kv:Value} (h:SiW w s fv sv ov kv):SiW w.drew s fv sv ov kv:=h.later (Below.refl _ _).drew
structure De where
 what:Int
 id:ByteArray
 kd:ByteArray
 num:Int
 x:Nat
 y:Nat
 f:Pr
abbrev deL (d:De) (fv:Value):List Value:=[.int .i64 d.what,.string d.id,.string d.kd,.int .i64 d.num,.float .f64 d.x,.float .f64 d.y,.int .i64 d.f.op,.string d.f.text,.int .i64 d.f.n,.float .f64 d.f.x,.float .f64 d.f.y,fv]
abbrev deV (d:De) (fv:Value):Value:=.agg #[.int .i64 d.what,.string d.id,.string d.kd,.int .i64 d.num,.float .f64 d.x,.float .f64 d.y,.int .i64 d.f.op,.string d.f.text,.int .i64 d.f.n,.float .f64 d.f.x,.float .f64 d.f.y,fv]
structure DeW (w:World) (d:De) (fv:Value):Prop where
 lf:LT w d.f fv
 id:d.id.size ≤ maxLen
 kd:d.kd.size ≤ maxLen
 what:-9223372036854775808 ≤ d.what ∧ d.what ≤ 9223372036854775807
theorem DeW.later {w w':World} {d:De} {fv:Value} (h:DeW w d fv) (hb:Below w.heap.size w w'):DeW w' d fv:=⟨h.lf.later hb (Nat.le_refl _),h.id,h.kd,h.what⟩
section
variable {H:Type} {enc:TypeId × Value → H} {w:World} {base:Nat} {spare:Nat → Bool} {held:Bool} {fuel:Nat} {cs:List Value} {x:DataW H × List MemPlace}
theorem zu1 (h:DataW.trod enc Tryz.prog w base spare held fuel 57 cs = some x):∃ (d:De) (fv:Value),cs = deL d fv ∧ DeW w d fv:=by
 obtain ⟨xs,n,hn,hx,hl,hxl,hf⟩:=DataW.trod_struct Tryz.underlying57 h
 have hl':cs.length = 12:=hl.trans (by kernel_rfl)
 have hxl':xs.length = 7:=hxl.trans (by kernel_rfl)
 have g0:DataW.trod enc Tryz.prog w base spare held n 3 ((cs.drop 0).take (Tryz.prog.cellsOf 3)) = xs[0]?:=hf 0 _ rfl
 have g1:DataW.trod enc Tryz.prog w base spare held n 9 ((cs.drop 1).take (Tryz.prog.cellsOf 9)) = xs[1]?:=hf 1 _ rfl
 have g2:DataW.trod enc Tryz.prog w base spare held n 9 ((cs.drop 2).take (Tryz.prog.cellsOf 9)) = xs[2]?:=hf 2 _ rfl
 have g3:DataW.trod enc Tryz.prog w base spare held n 3 ((cs.drop 3).take (Tryz.prog.cellsOf 3)) = xs[3]?:=hf 3 _ rfl
 have g4:DataW.trod enc Tryz.prog w base spare held n 22 ((cs.drop 4).take (Tryz.prog.cellsOf 22)) = xs[4]?:=hf 4 _ rfl
 have g5:DataW.trod enc Tryz.prog w base spare held n 22 ((cs.drop 5).take (Tryz.prog.cellsOf 22)) = xs[5]?:=hf 5 _ rfl
 have g6:DataW.trod enc Tryz.prog w base spare held n 25 ((cs.drop 6).take (Tryz.prog.cellsOf 25)) = xs[6]?:=hf 6 _ rfl
 rw [show Tryz.prog.cellsOf 3 = 1 by kernel_rfl,List.getElem?_eq_getElem (by omega)] at g0 g3
 rw [show Tryz.prog.cellsOf 9 = 1 by kernel_rfl,List.getElem?_eq_getElem (by omega)] at g1 g2
 rw [show Tryz.prog.cellsOf 22 = 1 by kernel_rfl,List.getElem?_eq_getElem (by omega)] at g4 g5
 rw [show Tryz.prog.cellsOf 25 = 6 by kernel_rfl,List.getElem?_eq_getElem (by omega)] at g6
 match cs,hl' with
 | [c0,c1,c2,c3,c4,c5,c6,c7,c8,c9,c10,c11],_ =>
   obtain ⟨z0,k0,_,w0⟩:=DataW.trod_int Tryz.underlying3 g0
   obtain ⟨z1,k1,_,w1⟩:=DataW.trod_string Tryz.underlying9 g1
   obtain ⟨z2,k2,_,w2⟩:=DataW.trod_string Tryz.underlying9 g2
   obtain ⟨z3,k3,_⟩:=DataW.trod_int Tryz.underlying3 g3
   obtain ⟨z4,k4⟩:=zev Tryz.underlying22 g4
   obtain ⟨z5,k5⟩:=zev Tryz.underlying22 g5
   obtain ⟨q,kq,k6,hq⟩:=zmd n _ _ g6
   simp [tc] at k0 k1 k2 k3 k4 k5 k6
   obtain ⟨a1,a2,a3,a4,a5,a6⟩:=k6
   subst k0 k1 k2 k3 k4 k5 a1 a2 a3 a4 a5 a6
   refine ⟨⟨z0,z1,z2,z3,z4,z5,q⟩,_,rfl,hq,w1,w2,?_⟩
   simp [Lit.wf,IntKind.min,IntKind.max,IntKind.signed,IntKind.bits] at w0
   omega
end
end Go.Proofs.YthnllikalobmeaaGreat
namespace Go.Proofs.YthnllikalobmeaaGreat
set_option linter.unusedVariables false
set_option linter.unusedSimpArgs false
set_option maxRecDepth 100000
set_option maxHeartbeats 8000000
open Go.RowKit
def errV (n:Nat):Value:=if n = 0 then .nilIface else .iface 88 (.int .i64 n)
theorem zp2 (n k:Int) (w:World):(binOp .eql 47 (.iface 88 (.int .i64 n)) (.iface 88 (.int .i64 k))).run Tryz.prog w = .ok (.bool (n == k)) w:=by
 have hc:(Tryz.prog.info? 88).map (·.comparable) = some true:=by kernel_rfl
 cases hq:Tryz.prog.info? 88 with
 | none=>rw [hq] at hc;cases hc
 | some i =>
   have h1:i.comparable = true:=by rw [hq] at hc;simpa using hc
   have e:(Op.equalIn 9999 88 (.int .i64 n) (.int .i64 k)).run Tryz.prog w = .ok (n == k) w:=by
     unfold Op.equalIn
     simp [run_underlying Tryz.underlying88]
   have e2:(Op.equalIn 10000 47 (.iface 88 (.int .i64 n)) (.iface 88 (.int .i64 k))).run Tryz.prog w = .ok (n == k) w:=by
     rw [show (10000:Nat) = 9999 + 1 from rfl]
     unfold Op.equalIn
     simp [run_underlying Tryz.underlying47,typeInfo,hq,h1,e]
   simp [binOp,Op.equal,Op.maxDepth,e2]
attribute [local go_sem ↓] zp2
def zxx (n:Nat) (w0:World) (i:Value) (wr:World):Prop:=∃ k:Nat,1 ≤ k ∧ k ≤ n ∧ i = .int .i64 k ∧ Hid (w0 = wr)
theorem zrh (n:Nat) (hn:n ≤ 10) (w:World) :
   Calls Tryz.prog 17 #[errV n] w fun e w'=>e = .returned (.int .i64 n) ∧ w = w':=by
 by_cases h0:n = 0
 · subst h0
   rw [show errV 0 = .nilIface from rfl]
   go_enter Tryz.func17,Tryz.ntmps17
   go_wp2_with fail
   go_ret
   exact ⟨rfl,rfl⟩
 · rw [show errV n = .iface 88 (.int .i64 n) from if_neg h0]
   go_enter Tryz.func17,Tryz.ntmps17
   go_wp2_with fail
   go_loopw [3] (fun i wr=>zxx n w i wr) (fun i _=>11 - (intOf i).toNat)
   case atStart=>exact ⟨1,Nat.le_refl _,by omega,rfl,rfl⟩
   case round =>
     obtain ⟨k,hk1,hk,rfl,hw⟩:=hrel
     have ew:=hw.out
     subst ew
     clear hw
     have g1:(k:Int) ≤ 10:=by omega
     by_cases e:n = k
     · subst e
       go_wp2_with fail
       go_ret
       exact ⟨rfl,rfl⟩
     · have g2:((n:Int) == (k:Int)) = false:=by rw [beq_eq_false_iff_ne];omega
       go_wp2_with fail
       go_roundw
       case rel=>exact ⟨k + 1,by omega,by omega,by go_num,rfl⟩
       case measure=>simp [intOf];omega
def zbn (n:Int):Int:=if n.tmod 4 < 0 then n.tmod 4 + 4 else n.tmod 4
theorem zk7 (n:Int):0 ≤ zbn n ∧ zbn n ≤ 3:=by
 have h1:n.tmod 4 < 4:=Int.tmod_lt_of_pos n (by decide)
 have h2:-4 < n.tmod 4:=Int.lt_tmod_of_pos n (by decide)
 unfold zbn
 split <;> omega
theorem zkd (n:Int) (w:World) :
   Calls Tryz.prog 24 #[.int .i64 n,.int .i64 4] w fun e w'=>e = .returned (.int .i64 (zbn n)) ∧ w = w':=by
 have h1:n.tmod 4 < 4:=Int.tmod_lt_of_pos n (by decide)
 have h2:-4 < n.tmod 4:=Int.lt_tmod_of_pos n (by decide)
 unfold zbn
 by_cases h:n.tmod 4 < 0
 · rw [if_pos h]
   go_enter Tryz.func24,Tryz.ntmps24
   go_wp2_with fail
   go_ret
   exact ⟨rfl,rfl⟩
 · rw [if_neg h]
   go_enter Tryz.func24,Tryz.ntmps24
   go_wp2_with fail
   go_ret
   exact ⟨rfl,rfl⟩
end Go.Proofs.YthnllikalobmeaaGreat
namespace Go.Proofs.YthnllikalobmeaaGreat
set_option linter.unusedVariables false
set_option linter.unusedSimpArgs false
set_option maxRecDepth 100000
set_option maxHeartbeats 8000000
open Go.RowKit Go.Maps
def FrOwn (w:World) (B:Nat) (l:List Fr) (v:Value):Prop:=(∀ f ∈ l,∀ s ∈ f.ids,s.size ≤ maxLen) ∧ ∃ U,PK w B l U v
theorem PK.mono {w:World} {base B:Nat} {o:List Fr} {U:Nat → Value} {Lv:Value} (h:PK w base o U Lv) (hB:B ≤ base):PK w B o U Lv :=
 ⟨⟨h.row.1,h.row.2.imp id fun ⟨g,cap,cur,h1,h2,h3⟩=>⟨g,cap,cur,h1,Nat.le_trans hB h2,h3⟩⟩,fun i f hf=>(h.ids i f hf).mono hB,h.apart⟩
theorem FrOwn.fresh {w:World} {B:Nat} {l:List Fr} {v:Value} (h:FrOwn w B l v):FrFresh w B l v:=by
 obtain ⟨hok,U,h⟩:=h
 exact h.fresh (Nat.le_refl _) hok
theorem FrOwn.fr {w:World} {B:Nat} {l:List Fr} {v:Value} (h:FrOwn w B l v):FrW w l v:=h.fresh.fr
theorem FrOwn.mono {w:World} {B B':Nat} {l:List Fr} {v:Value} (h:FrOwn w B l v) (hB:B' ≤ B):FrOwn w B' l v:=by
 obtain ⟨hok,U,h⟩:=h
 exact ⟨hok,U,h.mono hB⟩
theorem FrOwn.setLow {w:World} {B:Nat} {l:List Fr} {v:Value} (h:FrOwn w B l v) {a:Addr} (ha:a.block < B) (u:Value):FrOwn (w.setCell a u) B l v:=by
 obtain ⟨hok,U,h⟩:=h
 exact ⟨hok,U,h.setLow ha u⟩
structure KP (w0:World) (base bm bp nc:Nat) (X Z:Array Value) (ids:List ByteArray) (raw:ByteArray → Nat → Int) (names:List ByteArray) (nv:Value) (vs:List (Nat → Int)) (o:List Fr) (U:Nat → Value) (Lv:Value) (wr:World):Prop where
 o1:Own wr w0.heap.size X 31
 o2:Own wr (w0.heap.size + 1) Z 31
 cnt:Cnt wr bm nc ids raw
 pcs:Pcs wr bp vs
 nm:OwnT wr w0.heap.size names nv
 nb:∀ b,nv.ownBlock = some b → b < base
 pk:PK wr base o U Lv
 bel:Below w0.heap.size w0 wr
 hb:w0.heap.size + 1 < bp
 hm:bm < base ∧ bm ≠ bp
 hp:bp < base
 hw:base ≤ wr.heap.size
section
variable {w0 wr w':World} {base bm bp nc:Nat} {X Z:Array Value} {ids:List ByteArray} {raw:ByteArray → Nat → Int} {names:List ByteArray} {nv:Value} {vs:List (Nat → Int)} {o:List Fr} {U:Nat → Value} {Lv:Value}
theorem KP.low (h:KP w0 base bm bp nc X Z ids raw names nv vs o U Lv wr) (hs:∀ b,b < base → w'.heap[b]? = wr.heap[b]?):Own w' w0.heap.size X 31 ∧ Own w' (w0.heap.size + 1) Z 31 ∧ Cnt w' bm nc ids raw ∧ Pcs w' bp vs ∧ OwnT w' w0.heap.size names nv:=by
 have h1:=h.hb;have h2:=h.hm;have h3:=h.hp
 refine ⟨⟨(hs _ (by omega)).trans h.o1.blk⟩,⟨(hs _ (by omega)).trans h.o2.blk⟩,?_,(hs _ h3).trans h.pcs,?_⟩
 · obtain ⟨D,⟨es,clock,q1,F,q2,q3⟩,r⟩:=h.cnt
   exact ⟨D,⟨es,clock,(hs _ h2.1).trans q1,F,q2,q3⟩,r⟩
 · refine ⟨h.nm.1,?_⟩
   rcases h.nm.2 with q | ⟨g,cap,cur,hv,hg,hh,r⟩
   · exact .inl q
   · exact .inr ⟨g,cap,cur,hv,hg,(hs g (h.nb g (by rw [hv];rfl))).trans hh,r⟩
theorem KP.later (h:KP w0 base bm bp nc X Z ids raw names nv vs o U Lv wr) (hb:Below wr.heap.size wr w'):KP w0 base bm bp nc X Z ids raw names nv vs o U Lv w' :=
 have hl:=h.low (w':=w') fun b hlt=>hb.block b (Nat.lt_of_lt_of_le hlt h.hw)
 ⟨hl.1,hl.2.1,hl.2.2.1,hl.2.2.2.1,hl.2.2.2.2,h.nb,h.pk.later hb,h.bel.trans (hb.mono h.bel.size),h.hb,h.hm,h.hp,Nat.le_trans h.hw hb.size⟩
theorem KP.alloc (h:KP w0 base bm bp nc X Z ids raw names nv vs o U Lv wr) (ob:Obj):KP w0 base bm bp nc X Z ids raw names nv vs o U Lv (wr.alloc ob):=h.later ((Below.refl _ _).alloc (Nat.le_refl _) _)
theorem KP.put (h:KP w0 base bm bp nc X Z ids raw names nv vs o U Lv wr) {vs':List (Nat → Int)} (hp:Pcs w' bp vs') (hg:wr.grownBy w' (some bp)):KP w0 base bm bp nc X Z ids raw names nv vs' o U Lv w':=by
 have h1:=h.hb;have h2:=h.hm;have h3:=h.hp;have h4:=h.hw;have h5:=h.bel.size
 have hs:∀ b,b < wr.heap.size → b ≠ bp → w'.heap[b]? = wr.heap[b]?:=fun b hb hne=>hg.block b hb (by simp [hne])
 refine ⟨⟨(hs _ (by omega) (by omega)).trans h.o1.blk⟩,⟨(hs _ (by omega) (by omega)).trans h.o2.blk⟩,?_,hp,?_,h.nb,h.pk.kept fun b hb hlt=>hs b hlt (by omega),h.bel.grown hg (by omega) (fun k hk=>by cases hk;omega),h.hb,h.hm,h.hp,Nat.le_trans h.hw hg.size⟩
 · obtain ⟨D,⟨es,clock,q1,F,q2,q3⟩,r⟩:=h.cnt
   exact ⟨D,⟨es,clock,(hs _ (by omega) h2.2).trans q1,F,q2,q3⟩,r⟩
 · refine World.ownsRow.kept h.nm hg ?_
   rcases h.nm.2 with ⟨rfl,_⟩ | ⟨g,cap,cur,rfl,_,hh,_⟩
   · exact .inl rfl
   · right
     intro e
     simp only [Value.ownBlock,Option.some.injEq] at e
     subst e
     have hq:=h.pcs
     unfold Pcs at hq
     rw [hh] at hq
     cases hq
theorem KP.grow (h:KP w0 base bm bp nc X Z ids raw names nv vs o U Lv wr) {row:Option Nat} (hg:wr.grownBy w' row) (hr:∀ k,row = some k → base ≤ k) {o':List Fr} {U':Nat → Value} {Lv':Value} (hk:PK w' base o' U' Lv'):KP w0 base bm bp nc X Z ids raw names nv vs o' U' Lv' w' :=
 have hl:=h.low (w':=w') fun b hlt=>hg.block b (Nat.lt_of_lt_of_le hlt h.hw) (fun e=>by have:=hr b e.symm;omega)
 ⟨hl.1,hl.2.1,hl.2.2.1,hl.2.2.2.1,hl.2.2.2.2,h.nb,hk,h.bel.grown hg h.bel.size (fun k hk=>by have:=hr k hk;have:=h.hb;have:=h.hp;omega),h.hb,h.hm,h.hp,Nat.le_trans h.hw hg.size⟩
theorem KP.addF (h:KP w0 base bm bp nc X Z ids raw names nv vs o U Lv wr) (v:Nat → Int) {g n cap:Nat} (hn:n = o.length + 1)
   (hown:w'.ownsRow base 105 9 (.slice (some ⟨g,0,none⟩) n cap) n (frCs U 0 o ++ fc ⟨[],v⟩ (.slice none 0 0))) (hgrow:wr.grownBy w' Lv.ownBlock) :
   KP w0 base bm bp nc X Z ids raw names nv vs (o ++ [⟨[],v⟩]) (updU U o.length (.slice none 0 0)) (.slice (some ⟨g,0,none⟩) n cap) w' :=
 h.grow hgrow (fun k hk=>(World.ownsRow.lt h.pk.row k hk).1) (h.pk.pushF v hn hown hgrow)
theorem KP.addT {gl nl cl:Nat} (h:KP w0 base bm bp nc X Z ids raw names nv vs o U (.slice (some ⟨gl,0,none⟩) nl cl) wr) {a:Nat} {f:Fr} (hf:o[a]? = some f) (s:ByteArray) {g n cap:Nat} (hn:n = f.ids.length + 1)
   (hown:w'.ownsRow base 9 1 (.slice (some ⟨g,0,none⟩) n cap) n (txC f.ids ++ [.string s])) (hgrow:wr.grownBy w' (U a).ownBlock) (hat:(U a).ownBlock = some g ∨ g = wr.heap.size) :
   KP w0 base bm bp nc X Z ids raw names nv vs (o.set a ⟨f.ids ++ [s],f.v⟩) (updU U a (.slice (some ⟨g,0,none⟩) n cap)) (.slice (some ⟨gl,0,none⟩) nl cl) (w'.setCell ⟨gl,a * 9,none⟩ (.slice (some ⟨g,0,none⟩) n cap)):=by
 have hu:=h.pk.ids a f hf
 have hgl:base ≤ gl:=(World.ownsRow.lt h.pk.row gl rfl).1
 have hr:∀ k,(U a).ownBlock = some k → base ≤ k:=fun k hk=>(World.ownsRow.lt hu k hk).1
 have hl:=h.low (w':=w'.setCell ⟨gl,a * 9,none⟩ (.slice (some ⟨g,0,none⟩) n cap)) fun b hlt=>(Below.heap_setCell _ _ _ _ (by show b ≠ gl;omega)).trans (hgrow.block b (Nat.lt_of_lt_of_le hlt h.hw) (fun e=>by have:=hr b e.symm;omega))
 have h1:=h.hb;have h3:=h.hp;have h4:=hgrow.size;have h5:=h.hw
 exact ⟨hl.1,hl.2.1,hl.2.2.1,hl.2.2.2.1,hl.2.2.2.2,h.nb,h.pk.pushT hf s hn hown hgrow hat,(h.bel.grown hgrow h.bel.size (fun k hk=>by have:=hr k hk;omega)).setCell (by show w0.heap.size ≤ gl;omega) _,h.hb,h.hm,h.hp,by simp [World.setCell];omega⟩
theorem kp9o (h:KP w0 base bm bp nc X Z ids raw names nv vs o U Lv wr) (hok:∀ f ∈ o,∀ s ∈ f.ids,s.size ≤ maxLen) (c0 c1 c2 c3 c4 c5 c6 c7 c8:Value):FrOwn (st9 wr (w0.heap.size + 1) c0 c1 c2 c3 c4 c5 c6 c7 c8) w0.heap.size o Lv:=by
 have hb:∀ q,((⟨w0.heap.size + 1,q,none⟩:Addr)).block < base:=fun q=>by have:=h.hb;have:=h.hp;show w0.heap.size + 1 < base;omega
 exact ⟨hok,U,((((((((((h.pk.setLow (hb 0) c0).setLow (hb 1) c1).setLow (hb 2) c2).setLow (hb 3) c3).setLow (hb 4) c4).setLow (hb 5) c5).setLow (hb 6) c6).setLow (hb 7) c7).setLow (hb 8) c8).mono (by have:=h.hb;have:=h.hp;omega))⟩
end
theorem zir {o:List Fr} {v:Nat → Int} {a:Nat} {f:Fr} (hf:o[a]? = some f) (hn:∀ j g,j < a → o[j]? = some g → eqV g.v v = false) (he:eqV f.v v = true) :
   (∀ k B,k < a → (o.map (·.v))[k]? = some B → eqV B v = false) ∧ ∃ B,(o.map (·.v))[a]? = some B ∧ eqV B v = true:=by
 refine ⟨fun k B hk hB=>?_,f.v,by simp [hf],he⟩
 rw [List.getElem?_map] at hB
 cases hg:o[k]? with
 | none=>rw [hg] at hB;cases hB
 | some g=>rw [hg] at hB;cases hB;exact hn k g hk hg
theorem znt (v:Nat → Int):∀ o:List Fr,(∃ (a:Nat) (f:Fr),o[a]? = some f ∧ (∀ (j:Nat) (g:Fr),j < a → o[j]? = some g → eqV g.v v = false) ∧ eqV f.v v = true) ∨ (∀ (j:Nat) (g:Fr),j < o.length → o[j]? = some g → eqV g.v v = false)
 | []=>.inr fun j g hj=>absurd hj (by simp)
 | q :: o=>by
   cases hq:eqV q.v v with
   | true=>exact .inl ⟨0,q,rfl,fun j g hj=>absurd hj (by omega),hq⟩
   | false =>
     rcases znt v o with ⟨a,f,h1,h2,h3⟩ | h
     · refine .inl ⟨a + 1,f,by simpa using h1,fun j g hj hg=>?_,h3⟩
       cases j with
       | zero=>simp at hg;subst hg;exact hq
       | succ j=>exact h2 j g (by omega) (by simpa using hg)
     · refine .inr fun j g hj hg=>?_
       cases j with
       | zero=>simp at hg;subst hg;exact hq
       | succ j=>exact h j g (by simpa using hj) (by simpa using hg)
theorem zhs {o:List Fr} {v:Nat → Int} (h:∀ j g,j < o.length → o[j]? = some g → eqV g.v v = false):∀ B ∈ o.map (·.v),eqV B v = false:=by
 intro B hB
 obtain ⟨g,hg,rfl⟩:=List.mem_map.1 hB
 obtain ⟨j,hj⟩:=List.getElem?_of_mem hg
 exact h j g (posA hj) hj
theorem zt4 {o:List Fr} {a:Nat} {f f':Fr} (hf:o[a]? = some f) (hv:f'.v = f.v):(o.set a f').map (·.v) = o.map (·.v):=by
 rw [List.map_set,hv]
 refine List.ext_getElem? fun i=>?_
 by_cases e:a = i
 · subst e
   have hl:=posA hf
   rw [List.getElem?_set_self (by simpa using hl),List.getElem?_map,hf];rfl
 · rw [List.getElem?_set_ne e]
end Go.Proofs.YthnllikalobmeaaGreat
namespace Go.Proofs.YthnllikalobmeaaGreat
set_option linter.unusedVariables false
set_option linter.unusedSimpArgs false
set_option maxRecDepth 100000
set_option maxHeartbeats 8000000
open Go.RowKit
def growA_ren:Go.Shelf.Ren:=⟨fun | 4=>171 | n=>n,
 fun | 22=>29 | 25=>105 | 3=>3 | 4=>4 | 9=>9 | 20=>20 | 0=>0 | n=>n,
 fun | n=>n⟩
theorem zxo:Go.Proofs.Lays8.n4 Tryz.prog growA_ren:={
 mixed:=by kernel_rfl,
 f4:=⟨Tryz.f171.name,by decide,Tryz.func171.trans (congrArg some (by kernel_rfl))⟩,
 t0:=Tryz.underlying0,
 a0:=Tryz.isAgg0,
 z0:=Tryz.sizeOf0,
 v0:=Tryz.zeroValue0,
 t3:=Tryz.underlying3,
 a3:=Tryz.isAgg3,
 z3:=Tryz.sizeOf3,
 v3:=Tryz.zeroValue3,
 t4:=Tryz.underlying4,
 a4:=Tryz.isAgg4,
 z4:=Tryz.sizeOf4,
 v4:=Tryz.zeroValue4,
 t9:=Tryz.underlying9,
 a9:=Tryz.isAgg9,
 z9:=Tryz.sizeOf9,
 v9:=Tryz.zeroValue9,
 t20:=Tryz.underlying20,
 a20:=Tryz.isAgg20,
 z20:=Tryz.sizeOf20,
 v20:=Tryz.zeroValue20,
 t22:=Tryz.underlying29,
 a22:=Tryz.isAgg29,
 z22:=Tryz.sizeOf29,
 v22:=Tryz.zeroValue29 }
theorem zrp (n:Nat) (hn:n ≤ 20000) (w:World) :
   Calls Tryz.prog 171 #[.slice none 0 0,.int .i64 n] w fun e w'=>∃ v,e = .returned v ∧ w'.ownsRow w.heap.size 105 9 v 0 [] ∧ Below w.heap.size w w':=by
 obtain ⟨j0,hj,hy0,hy1,hy2⟩:=info_parts zcr
 by_cases h0:n = 0
 · subst h0
   refine (Any8.slices_Grow_room zxo none 0 0 0 w (by omega) (by omega) (by omega) (by omega)).mono ?_
   rintro e w' ⟨rfl,rfl⟩
   exact ⟨_,rfl,World.ownsRow_nil _ _ _ _,Below.refl _ _⟩
 · refine (Any8.slices_Grow_grow zxo j0 _ hj hy0 (by rw [hy1];omega) none 0 0 n [] w (by omega) (by omega) (by rw [hy2];omega) (by omega) (by simp) (fun _=>rfl) (fun a h=>by cases h)).mono ?_
   rintro e w' ⟨rfl,rfl⟩
   have hge:=grownCap_ge w (0 + n) 0 (growA_ren.t 25)
   have hle:=grownCap_le_maxLen w (0 + n) 0 (growA_ren.t 25) (by unfold maxLen;omega)
   refine ⟨_,rfl,⟨by simp,.inr ⟨w.heap.size,_,_,rfl,Nat.le_refl _,heap_alloc_new w.drew _,by omega,hle,?_,by simp⟩⟩,(Below.refl _ _).drew.alloc (Nat.le_refl _) _⟩
   simp only [Array.size_append,List.size_toArray,size_zeroCells,List.length_nil,Nat.zero_add,Nat.sub_zero]
   rw [← Nat.add_mul]
   rw [show (Value.cells (.agg #[.slice none 0 0,.int .i64 0,.int .i64 0,.int .i64 0,.int .i64 0,.int .i64 0,.int .i64 0,.int .i64 0,.int .i64 0])).size = 9 from rfl]
   congr 1
   simp only [Nat.zero_add] at hge
   omega
theorem zmb (a:Addr) (w:World):(storeCells a []).run Tryz.prog w = .ok () w:=by simp [storeCells]
theorem zkl (ty:TypeId) (base oa:Option Addr) (n cap c:Nat) (hn:n ≤ cap) (w:World) :
   (Builtin.append_ #[29,29] ty #[.slice base n cap,.slice oa 0 c]).run Tryz.prog w = .ok (.slice base n cap) w:=by
 obtain ⟨j0,hj,hy0,hy1,hy2⟩:=info_parts zcr
 have hf:(Builtin.firstCells j0.size 0 (.slice oa 0 c)).run Tryz.prog w = .ok #[] w:=by
   cases oa with
   | none=>exact run_firstCells_none w _ _ _ _
   | some a=>exact run_firstCells_some w j0.size 0 a 0 c [] (by simp) (fun j v h=>by simp at h)
 cases base with
 | none=>simp [Builtin.append_,run_underlying Tryz.underlying29,sizeOf,typeInfo,hj,Builtin.lenOf,hn,hf,Result.andThen]
 | some a=>simp [Builtin.append_,run_underlying Tryz.underlying29,sizeOf,typeInfo,hj,Builtin.lenOf,hn,hf,zmb,Result.andThen]
theorem zlo {w:World} {l:List Fr} {U:Nat → Value} {oa:Option Addr} {cap b o:Nat} (h:FrAt w l U oa cap b o):∀ j u,(frCs U 0 l)[j]? = some u → w.cell? ((⟨b,o,none⟩:Addr).add j) = some u:=by
 intro j u hu
 have hj:j < (frCs U 0 l).length:=(List.getElem?_eq_some_iff.1 hu).1
 rw [zcz] at hj
 obtain ⟨i,r,hr,rfl⟩:∃ i r,r < 9 ∧ j = i * 9 + r:=⟨j / 9,j % 9,Nat.mod_lt _ (by omega),by omega⟩
 obtain ⟨f,hf⟩:∃ f,l[i]? = some f:=⟨_,List.getElem?_eq_getElem (by omega)⟩
 rw [zck U 0 l i f hf r hr,Nat.zero_add] at hu
 have:=h.cell i f hf r u hu
 rw [← this]
 by_cases e:i * 9 + r = 0
 · obtain ⟨rfl,rfl⟩:i = 0 ∧ r = 0:=by omega
   simp [Addr.add]
 · simp only [Addr.add]
   first | rw [if_neg e,Nat.add_assoc] | (rw [Nat.add_assoc];split <;> first | rfl | omega) | (simp [Nat.add_assoc];intro h1 h2;omega)
theorem zlx {w:World} {l:List Fr} {U:Nat → Value} {oa:Option Addr} {cap b o:Nat} (h:FrAt w l U oa cap b o):∀ u ∈ frCs U 0 l,u.oneCell' = true:=by
 intro u hu
 obtain ⟨j,hj⟩:=List.getElem?_of_mem hu
 have hlt:j < (frCs U 0 l).length:=(List.getElem?_eq_some_iff.1 hj).1
 rw [zcz] at hlt
 obtain ⟨i,r,hr,rfl⟩:∃ i r,r < 9 ∧ j = i * 9 + r:=⟨j / 9,j % 9,Nat.mod_lt _ (by omega),by omega⟩
 obtain ⟨f,hf⟩:∃ f,l[i]? = some f:=⟨_,List.getElem?_eq_getElem (by omega)⟩
 rw [zck U 0 l i f hf r hr,Nat.zero_add] at hj
 obtain ⟨oq,cq,e⟩:=(h.ids i f hf).val
 exact oneF f (by rw [e];rfl) u (List.mem_of_getElem? hj)
theorem zje (ty:TypeId) {w:World} {base n:Nat} {v sv:Value} {xs:List Value} {l:List Fr} (hown:w.ownsRow base 105 9 v n xs) {U:Nat → Value} {oa:Option Addr} {cap b o:Nat} (hsv:sv = .slice oa l.length cap) (h:FrAt w l U oa cap b o)
   (hn:n + l.length ≤ 30000) (hbase:base ≤ w.heap.size) :
   ∃ v' w',(Builtin.append_ #[29,29] ty #[v,sv]).run Tryz.prog w = .ok v' w' ∧ w'.ownsRow base 105 9 v' (n + l.length) (xs ++ frCs U 0 l) ∧ w.grownBy w' v.ownBlock:=by
 subst hsv
 obtain ⟨j0,hj,hy0,hy1,hy2⟩:=info_parts zcr
 by_cases h0:l.length = 0
 · have e:l = []:=List.length_eq_zero_iff.1 h0
   subst e
   obtain ⟨ov,cv,gv,e,h1,_⟩:=zan hown
   subst e
   refine ⟨_,w,zkl ty ov oa n cv cap h1 w,?_,⟨rfl,rfl,rfl,Nat.le_refl _,fun _ _ _=>rfl⟩⟩
   simpa [frCs] using hown
 · obtain ⟨rfl,hb⟩:=h.at0 (by omega)
   obtain ⟨v',w',r1,r2,r3,_⟩:=run_append_own w base 29 ty 105 j0 _ 9 88 Tryz.underlying29 hj hy0 hy1 hy2 rfl (by omega) v n xs hown ⟨b,o,none⟩ l.length cap (frCs U 0 l) (zcz U 0 l) (zlo h) (zlx h) (by unfold maxLen;omega) (by omega) hbase
   exact ⟨v',w',r1,r2,r3⟩
theorem zse {w:World} {base:Nat} {l:List Fr} {U:Nat → Value} {v:Value} (h:w.ownsRow base 105 9 v l.length (frCs U 0 l)) (hi:∀ k f,l[k]? = some f → TxW w f.ids (U k)):FrW w l v:=by
 obtain ⟨oa,cap,g,e,h1,h2,hg⟩:=zan h
 subst e
 refine ⟨U,oa,cap,g,0,rfl,h1,h2,fun h0=>⟨(hg h0).1,(hg h0).2.2⟩,fun k f hf j u hu=>?_,hi⟩
 obtain ⟨rfl,_⟩:=hg (by have:=posA hf;omega)
 have hj:j < 9:=(List.getElem?_eq_some_iff.1 hu).1
 have hk:=posA hf
 rw [Nat.zero_add,h.cellAt (k * 9 + j) (by omega),zck _ _ _ _ _ hf _ hj,Nat.zero_add]
 exact hu
def zd3 (U V:Nat → Value) (n:Nat):Nat → Value:=fun i=>if i < n then U i else V (i - n)
theorem zpk (U V:Nat → Value) (l m:List Fr):frCs U 0 l ++ frCs V 0 m = frCs (zd3 U V l.length) 0 (l ++ m):=by
 rw [zgi,Nat.zero_add]
 congr 1
 · exact zel fun i hi=>by simp [zd3,hi]
 · have:∀ (s t:Nat) (q:List Fr),(∀ i,i < q.length → V (t + i) = zd3 U V l.length (s + i)) → frCs V t q = frCs (zd3 U V l.length) s q:=by
     intro s t q
     induction q generalizing s t with
     | nil=>intro _;rfl
     | cons p q ih =>
       intro h
       rw [frCs,frCs,show V t = zd3 U V l.length s from h 0 (by simp),ih (s + 1) (t + 1) fun i hi=>by have:=h (i + 1) (by simp;omega);rwa [show t + (i + 1) = t + 1 + i by omega,show s + (i + 1) = s + 1 + i by omega] at this]
   exact this l.length 0 m fun i hi=>by
     unfold zd3;rw [if_neg (by omega),Nat.zero_add,Nat.add_sub_cancel_left]
structure Srcs (w:World) (L:Nat → List Fr) (V:Nat → Value) (U:Nat → Nat → Value) (bs:Nat):Prop where
 lt:bs < w.heap.size
 cell:∀ k,k < 2 → w.cell? ⟨bs,k,none⟩ = some (V k)
 lies:∀ k,k < 2 → ∃ oa cap b o,V k = .slice oa (L k).length cap ∧ FrAt w (L k) (U k) oa cap b o
 len:(L 0).length + (L 1).length ≤ 20000
def totL (L:Nat → List Fr):Nat → Nat
 | 0=>0
 | k + 1=>totL L k + (L k).length
def totC (L:Nat → List Fr) (U:Nat → Nat → Value):Nat → List Value
 | 0=>[]
 | k + 1=>totC L U k ++ frCs (U k) 0 (L k)
theorem Srcs.tot {w:World} {L:Nat → List Fr} {V:Nat → Value} {U:Nat → Nat → Value} {bs:Nat} (h:Srcs w L V U bs):∀ k,k ≤ 2 → totL L k ≤ 20000:=by
 intro k hk
 have:=h.len
 obtain rfl | rfl | rfl:k = 0 ∨ k = 1 ∨ k = 2:=by omega
 · simp [totL]
 · simp only [totL];omega
 · simp only [totL];omega
def zx0 (L:Nat → List Fr) (w0:World) (s i:Value) (wr:World):Prop:=∃ k:Nat,k ≤ 2 ∧ i = .int .i64 k ∧ s = .int .i64 (totL L k) ∧ Hid (w0 = wr)
def zss (L:Nat → List Fr) (U:Nat → Nat → Value) (w0:World) (v i:Value) (wr:World):Prop :=
 ∃ k:Nat,k ≤ 2 ∧ i = .int .i64 k ∧ Hid (wr.ownsRow w0.heap.size 105 9 v (totL L k) (totC L U k)) ∧ Hid (Below w0.heap.size w0 wr)
theorem zpp (L:Nat → List Fr) (V:Nat → Value) (U:Nat → Nat → Value) (bs:Nat) (w:World) (hS:Srcs w L V U bs) :
   Calls Tryz.prog 146 #[.slice (some ⟨bs,0,none⟩) 2 2] w fun e w'=>∃ v,e = .returned v ∧ w'.ownsRow w.heap.size 105 9 v (totL L 2) (totC L U 2) ∧ Below w.heap.size w w':=by
 have HS:=Lib.hid hS
 have G:=fun w'=>Lib.hid (zrp (totL L 2) (HS.out.tot 2 (by omega)) w')
 clear hS
 go_enter Tryz.func146,Tryz.ntmps146
 go_wp2_with fail
 go_loopw [3,11] (fun s i wr=>zx0 L w s i wr) (fun _ i _=>2 - (intOf i).toNat)
 case atStart=>exact ⟨0,by omega,rfl,rfl,rfl⟩
 case round =>
   obtain ⟨k,hk,rfl,rfl,hw⟩:=hrel
   have ew:=hw.out
   subst ew
   clear hw
   by_cases hlt:k < 2
   · obtain ⟨oa,cap,b,o,hV,hF⟩:=HS.out.lies k hlt
     have cv:=HS.out.cell k hlt
     rw [hV] at cv
     have zb:=HS.out.lt
     have t1:=HS.out.tot k hk
     have t2:=HS.out.tot (k + 1) (by omega)
     have t3:totL L (k + 1) = totL L k + (L k).length:=rfl
     have k0:(0:Int) ≤ (k:Int):=by omega
     have k1:(k:Int) < 2:=by omega
     have hq:((L k).length:Int) ≤ 20000:=by omega
     have hq0:(0:Int) ≤ ((L k).length:Int):=by omega
     have HT:=Lib.hid t3
     clear t2 t3 hV hF
     generalize (L k).length = m at *
     generalize ht:totL L k = t at *
     have hneg:decide (((t:Int) + (m:Int)) < 0) = false:=decide_eq_false (by omega)
     go_wp2_with fail
     go_roundw
     case rel=>exact ⟨k + 1,by omega,by go_num,by rw [HT.out];go_num,rfl⟩
     case measure=>simp [intOf];omega
   · have e:k = 2:=by omega
     subst e
     go_wp2_with (go_at_call 171;refine (G _).out.mono ?_;rintro e w1 ⟨v0,rfl,hr0,hb0⟩)
     have C0:zss L U w v0 (.int .i64 0) w1:=⟨0,by omega,rfl,hr0,hb0⟩
     clear hr0 hb0
     go_loopw [6,27] (fun v i wr=>zss L U w v i wr) (fun _ i _=>2 - (intOf i).toNat)
     case atStart=>exact C0
     case round =>
       clear C0
       obtain ⟨k,hk,rfl,HR,HB⟩:=hrel
       by_cases hlt:k < 2
       · obtain ⟨oa,cap,b,o,hV,hF⟩:=HS.out.lies k hlt
         have cv:=(HB.out.cell (p:=⟨bs,k,none⟩) HS.out.lt).trans (HS.out.cell k hlt)
         rw [hV] at cv
         have zb:bs < wr.heap.size:=Nat.lt_of_lt_of_le HS.out.lt HB.out.size
         have t1:=HS.out.tot (k + 1) (by omega)
         simp only [totL] at t1
         have k0:(0:Int) ≤ (k:Int):=by omega
         have k1:(k:Int) < 2:=by omega
         have hF':=hF.later HB.out (Nat.le_refl _)
         have AP:=fun ty=>zje ty HR.out rfl hF' (by omega) HB.out.size
         have HA:=Lib.hid AP
         obtain ⟨ov,cvv,gv,rfl,_,_,_⟩:=zan HR.out
         clear hF hF' AP hV
         go_wp2_with (at_builtin;obtain ⟨v',w',hrun,hown,hgr⟩:=HA.out _;refine Lib.wpList_append_run _ rfl _ _ _ _ rfl _ _ rfl rfl _ _ hrun ?_)
         have HB2:=Lib.hid (HB.out.grown hgr HB.out.size fun q hq=>(World.ownsRow.lt HR.out q hq).1)
         go_roundw
         case rel=>exact ⟨k + 1,by omega,by go_num,hown,HB2⟩
         case measure=>simp [intOf];omega
       · have e:k = 2:=by omega
         subst e
         go_wp2_with fail
         go_ret
         exact ⟨_,rfl,HR.out,HB.out⟩
theorem zri (l m:List Fr) (U0 U1:Nat → Value) (oa oa':Option Addr) (cap cap' b b' o o':Nat) (bs:Nat) (w:World) (hlt:bs < w.heap.size) (c0:w.cell? ⟨bs,0,none⟩ = some (.slice oa l.length cap)) (c1:w.cell? ⟨bs,1,none⟩ = some (.slice oa' m.length cap')) (h0:FrAt w l U0 oa cap b o) (h1:FrAt w m U1 oa' cap' b' o') (hlen:l.length + m.length ≤ 20000) :
   Calls Tryz.prog 146 #[.slice (some ⟨bs,0,none⟩) 2 2] w fun e w'=>∃ u,e = .returned u ∧ w'.ownsRow w.heap.size 105 9 u (l ++ m).length (frCs (zd3 U0 U1 l.length) 0 (l ++ m)) ∧ Below w.heap.size w w':=by
 refine (zpp (fun k=>if k = 0 then l else m) (fun k=>if k = 0 then .slice oa l.length cap else .slice oa' m.length cap') (fun k=>if k = 0 then U0 else U1) bs w ⟨hlt,fun k hk=>?_,fun k hk=>?_,by simpa using hlen⟩).mono ?_
 · obtain rfl | rfl:k = 0 ∨ k = 1:=by omega
   · simpa using c0
   · simpa using c1
 · obtain rfl | rfl:k = 0 ∨ k = 1:=by omega
   · exact ⟨_,_,_,_,rfl,h0⟩
   · exact ⟨_,_,_,_,rfl,h1⟩
 · rintro e w' ⟨u,rfl,hr,hb⟩
   refine ⟨u,rfl,?_,hb⟩
   simp only [totL,totC] at hr
   simp only [if_pos,List.nil_append,Nat.zero_add,show ((1:Nat) = 0) = False by simp,if_false,if_true] at hr
   rw [zpk,← List.length_append] at hr
   exact hr
theorem zzo {w:World} {base:Nat} {l m:List Fr} {U0 U1:Nat → Value} {u:Value} (h:w.ownsRow base 105 9 u (l ++ m).length (frCs (zd3 U0 U1 l.length) 0 (l ++ m))) (h0:∀ k f,l[k]? = some f → TxW w f.ids (U0 k)) (h1:∀ k f,m[k]? = some f → TxW w f.ids (U1 k)):FrW w (l ++ m) u:=by
 refine zse h fun k f hf=>?_
 by_cases hk:k < l.length
 · rw [List.getElem?_append_left hk] at hf
   simp only [zd3,hk,if_true]
   exact h0 k f hf
 · rw [List.getElem?_append_right (by omega)] at hf
   simp only [zd3,hk,if_false]
   exact h1 _ f hf
end Go.Proofs.YthnllikalobmeaaGreat
