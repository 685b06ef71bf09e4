/- Joined: StN, RefSt7, RefSt8, RefSt10. -/
import Derived.Test.YthnllikalobmeaaGreatJ32
import Derived.Test.YthnllikalobmeaaGreatJ27
namespace Go.Proofs.YthnllikalobmeaaGreat
set_option linter.unusedVariables false
set_option linter.unusedSimpArgs false
set_option maxRecDepth 100000
set_option maxHeartbeats 8000000
open Go.RowKit
def LPF (w:World) (B:Nat) (p:Pr) (v:Value):Prop:=Lies 5 pc (fun b=>B ≤ b ∧ b < w.heap.size) w p v
theorem LPF.lp {w:World} {B:Nat} {p:Pr} {v:Value} (h:LPF w B p v):LP w p v:=h.mono (fun _ _ _=>rfl) fun _ h=>h.2
theorem LPF.later {w w':World} {B:Nat} {p:Pr} {v:Value} (h:LPF w B p v) (hb:Below w.heap.size w w'):LPF w' B p v :=
 h.mono (fun b o hS=>hb.cell (p:=⟨b,o,none⟩) hS.2) fun _ hS=>⟨hS.1,Nat.lt_of_lt_of_le hS.2 hb.size⟩
theorem LPF.mono' {w:World} {B B':Nat} {p:Pr} {v:Value} (h:LPF w B p v) (hb:B' ≤ B):LPF w B' p v:=h.mono (fun _ _ _=>rfl) fun _ h=>⟨Nat.le_trans hb h.1,h.2⟩
theorem LPF.sets {w:World} {B b:Nat} {p:Pr} {v:Value} (h:LPF w B p v) (hb:b < B) (vs:List Value):LPF (w.setCells b 0 vs) B p v :=
 h.mono (fun b' o hS=>World.cell?_setCells_out b vs 0 w ⟨b',o,none⟩ (fun e _=>by have:=hS.1;simp only at e;omega)) fun _ hS=>⟨hS.1,Nat.lt_of_lt_of_le hS.2 (zab (B:=b) (Nat.le_refl _) vs 0 (Below.refl b w)).size⟩
structure StN (w:World) (B:Nat) (p:Pr) (pv:Value) (l:List Itm) (sv:Value) (m:List Itm) (ov:Value) (k:List Fr) (kv:Value) (U:St) (fv' sv' ov' kv':Value):Prop where
 f:(U.f = p ∧ fv' = pv) ∨ LPF w B U.f fv'
 st:(U.store = l ∧ sv' = sv) ∨ RowF w B U.store sv'
 ou:(U.out = m ∧ ov' = ov) ∨ RowF w B U.out ov'
 k:(U.k.l = k ∧ kv' = kv) ∨ FrFresh w B U.k.l kv'
section
variable {w:World} {B:Nat} {p:Pr} {pv:Value} {l:List Itm} {sv:Value} {m:List Itm} {ov:Value} {k:List Fr} {kv:Value} {U:St} {fv' sv' ov' kv':Value}
theorem StN.later {w':World} (h:StN w B p pv l sv m ov k kv U fv' sv' ov' kv') (hb:Below w.heap.size w w'):StN w' B p pv l sv m ov k kv U fv' sv' ov' kv' :=
 ⟨h.f.imp id fun h=>h.later hb,h.st.imp id fun h=>h.later hb,h.ou.imp id fun h=>h.later hb,h.k.imp id fun h=>h.stays hb⟩
theorem StN.mono {B':Nat} (h:StN w B p pv l sv m ov k kv U fv' sv' ov' kv') (hb:B' ≤ B):StN w B' p pv l sv m ov k kv U fv' sv' ov' kv' :=
 ⟨h.f.imp id fun h=>h.mono' hb,h.st.imp id fun h=>h.mono hb,h.ou.imp id fun h=>h.mono hb,h.k.imp id fun h=>h.mono hb⟩
theorem StN.sets {b:Nat} (h:StN w B p pv l sv m ov k kv U fv' sv' ov' kv') (hb:b < B) (vs:List Value):StN (w.setCells b 0 vs) B p pv l sv m ov k kv U fv' sv' ov' kv' :=
 ⟨h.f.imp id fun h=>h.sets hb vs,h.st.imp id fun h=>h.sets hb vs 0,h.ou.imp id fun h=>h.sets hb vs 0,h.k.imp id fun h=>h.sets hb vs 0⟩
theorem StN.lies {w0:World} (h:StN w B p pv l sv m ov k kv U fv' sv' ov' kv') (hp:LP w0 p pv) (hl:Row 8 ic w0 l sv) (hm:Row 8 ic w0 m ov) (hk:FrW w0 k kv) (hb:Below w0.heap.size w0 w):StW w U fv' sv' ov' kv':=by
 obtain ⟨h1,h2,h3,h4⟩:=h
 refine ⟨?_,?_,?_,?_⟩
 · rcases h1 with ⟨e,rfl⟩ | h1
   · rw [e];exact hp.later hb (Nat.le_refl _)
   · exact h1.lp
 · rcases h2 with ⟨e,rfl⟩ | h2
   · rw [e];exact hl.later hb
   · exact h2.row
 · rcases h3 with ⟨e,rfl⟩ | h3
   · rw [e];exact hm.later hb
   · exact h3.row
 · rcases h4 with ⟨e,rfl⟩ | h4
   · rw [e];exact hk.later hb (Nat.le_refl _)
   · exact h4.fr
theorem StX.n {s:St} {fv:Value} (h:StX w B s U sv ov kv sv' ov' kv'):StN w B s.f fv s.store sv s.out ov s.k.l kv U fv sv' ov' kv':=by
 rcases h with ⟨rfl,rfl,rfl,rfl⟩ | ⟨e,h1,h2,h3⟩
 · exact ⟨.inl ⟨rfl,rfl⟩,.inl ⟨rfl,rfl⟩,.inl ⟨rfl,rfl⟩,.inl ⟨rfl,rfl⟩⟩
 · exact ⟨.inl ⟨e,rfl⟩,.inr h1,.inr h2,.inr h3⟩
end
def Told (c:Int → Value) (p:Pr) (pv:Value) (s:St) (sv ov kv:Value) (U:St) (E:Int) (w:World) (e:Ending) (w':World):Prop :=
 ∃ fv' sv' ov' kv',e = .returned (.tuple #[stV U fv' sv' ov' kv',c E]) ∧ StN w' w.heap.size p pv s.store sv s.out ov s.k.l kv U fv' sv' ov' kv' ∧ Below w.heap.size w w'
def zxo (c:Int → Value) (p:Pr) (pv:Value) (q:Pr) (qv:Value) (s:St) (sv ov kv:Value) (U:St) (E:Int) (w:World) (e:Ending) (w':World):Prop :=
 Told c p pv s sv ov kv U E w e w' ∨ Told c q qv s sv ov kv U E w e w'
end Go.Proofs.YthnllikalobmeaaGreat
namespace Go.Proofs.YthnllikalobmeaaGreat
set_option linter.unusedVariables false
set_option linter.unusedSimpArgs false
set_option maxRecDepth 100000
set_option maxHeartbeats 8000000
open Go.RowKit
abbrev itS (id kd:ByteArray) (num:Int) (px py:Nat):Itm:=⟨id,1,1,1,kd,num,px,py,false⟩
def updE (s:St) (x:Itm):Int:=if mayT x = true then (if (zad s x.id).2 = true ∧ (zad s x.id).1.d = false then (if zb0 s = true then 5 else 0) else 2) else 1
def updS (s:St) (x:Itm):St:=if updE s x = 0 then zas s x else s
abbrev ziy (i:Itm):Itm:=⟨i.id,i.r,i.c,i.st,i.kd,i.num,i.x,i.y,true⟩
def delE (s:St) (id:ByteArray):Int:=if zax id = true then (if (zad s id).2 = true ∧ (zad s id).1.d = false then (if zb0 s = true then 5 else 0) else 2) else 1
def delS (s:St) (id:ByteArray):St:=if delE s id = 0 then zas s (ziy (zad s id).1) else s
theorem zwg {s:St} {id:ByteArray} (h:zax id = false):delE s id = 1 ∧ delS s id = s:=by
 have e:delE s id = 1:=by unfold delE;rw [if_neg (by simp [h])]
 exact ⟨e,by unfold delS;rw [e,if_neg (by decide)]⟩
theorem zwh {s:St} {id:ByteArray} (h:zax id = true) (h2:¬((zad s id).2 = true ∧ (zad s id).1.d = false)):delE s id = 2 ∧ delS s id = s:=by
 have e:delE s id = 2:=by unfold delE;rw [if_pos h,if_neg h2]
 exact ⟨e,by unfold delS;rw [e,if_neg (by decide)]⟩
theorem zr9 {s:St} {id:ByteArray} (h:(zad s id).2 = true):(zad s id).1.id = id:=by
 unfold zad at *
 rcases zbt (zao behT s.store s.out) id with ⟨i,_,e,hg⟩ | ⟨_,hg⟩
 · rw [hg];exact e
 · rw [hg] at h;cases h
theorem zhw {s:St} {fv sv ov kv:Value} {w:World} (hS:StW w s fv sv ov kv) (id:ByteArray):(zad s id).1.id.size ≤ maxLen ∧ (zad s id).1.kd.size ≤ maxLen:=by
 unfold zad
 rcases zbt (zao behT s.store s.out) id with ⟨i,hi,_,hg⟩ | ⟨_,hg⟩
 · rw [hg]
   rcases zlr s.out hi with h | h
   · exact hS.ls.oks i h
   · exact hS.lo.oks i h
 · rw [hg];exact ⟨by decide,by decide⟩
end Go.Proofs.YthnllikalobmeaaGreat
