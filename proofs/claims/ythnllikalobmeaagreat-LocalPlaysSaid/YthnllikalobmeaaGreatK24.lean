/- Joined: RefJoin. -/
import Derived.Test.YthnllikalobmeaaGreatK13
import Derived.Deep.RegionHeld3
namespace Go.Proofs.YthnllikalobmeaaGreat
set_option linter.unusedVariables false
set_option linter.unusedSimpArgs false
set_option maxRecDepth 100000
set_option maxHeartbeats 8000000
open Go.RowKit
theorem zo1 {w:World} {base:Nat} {l:List Fr} {U:Nat → Value} {v:Value} (h:w.ownsRow base 105 9 v l.length (frCs U 0 l)) (ht:∀ k f,l[k]? = some f → TxW w f.ids (U k)):FrW w l v:=by
 obtain ⟨oa,cap,g,e,h1,h2,hg⟩:=zan h
 subst e
 refine ⟨U,oa,cap,g,0,rfl,h1,h2,fun h0=>⟨(hg h0).1,(hg h0).2.2⟩,fun k f hf j u hu=>?_,ht⟩
 have hk:=posA hf
 obtain ⟨rfl,_⟩:=hg (by omega)
 have hj:j < 9:=(List.getElem?_eq_some_iff.1 hu).1
 rw [Nat.zero_add,h.cellAt (k * 9 + j) (by omega),zck _ _ _ _ _ hf _ hj,Nat.zero_add]
 exact hu
theorem zkx {w:World} {l:List Fr} {U:Nat → Value} {oa:Option Addr} {cap b o:Nat} (h:FrAt w l U oa cap b o):∀ j u,(frCs U 0 l)[j]? = some u → w.cell? ((⟨b,o,none⟩:Addr).add j) = some u:=by
 intro j u hu
 have hadd:(⟨b,o,none⟩:Addr).add j = ⟨b,o + j,none⟩:=by unfold Addr.add;split <;> simp_all
 rw [hadd]
 have hj:=(List.getElem?_eq_some_iff.1 hu).1
 rw [zcz] at hj
 have hi:j / 9 < l.length:=by omega
 have hp:l[j / 9]? = some l[j / 9]:=List.getElem?_eq_getElem hi
 have e:j = j / 9 * 9 + j % 9:=by omega
 rw [e,zck _ _ _ _ _ hp _ (by omega),Nat.zero_add] at hu
 have:=h.cell _ _ hp _ _ hu
 rw [show o + j / 9 * 9 + j % 9 = o + j by omega] at this
 exact this
theorem zvx {U:Nat → Value} {s:Nat} {l:List Fr} (h:∀ i f,l[i]? = some f → (U (s + i)).oneCell' = true):∀ u ∈ frCs U s l,u.oneCell' = true:=by
 induction l generalizing s with
 | nil=>simp [frCs]
 | cons p l ih =>
   intro u hu
   simp only [frCs,List.mem_append] at hu
   rcases hu with hu | hu
   · exact oneF p (h 0 p rfl) u hu
   · exact ih (s:=s + 1) (fun i q hq=>by have:=h (i + 1) q (by simpa using hq);rwa [show s + 1 + i = s + (i + 1) by omega]) u hu
theorem znv {w:World} {l:List Fr} {U:Nat → Value} {oa:Option Addr} {cap b o:Nat} (h:FrAt w l U oa cap b o):∀ u ∈ frCs U 0 l,u.oneCell' = true :=
 zvx fun i f hf=>by
   obtain ⟨ou,cu,e⟩:=(h.ids i f hf).val
   rw [Nat.zero_add,e];rfl
def zd4 (n:Nat) (U V:Nat → Value):Nat → Value:=fun i=>if i < n then U i else V (i - n)
theorem ztm (U V:Nat → Value) (l m:List Fr):frCs U 0 l ++ frCs V 0 m = frCs (zd4 l.length U V) 0 (l ++ m):=by
 rw [zgi]
 congr 1
 · exact zel fun i hi=>by simp [zd4,hi]
 · have:∀ (m:List Fr) (s:Nat),frCs V s m = frCs (zd4 l.length U V) (l.length + s) m:=by
     intro m
     induction m with
     | nil=>intro s;rfl
     | cons p m ih =>
       intro s
       rw [frCs,frCs,ih (s + 1),show l.length + s + 1 = l.length + (s + 1) by omega]
       have e:zd4 l.length U V (l.length + s) = V s:=by unfold zd4;rw [if_neg (by omega),show l.length + s - l.length = s by omega]
       rw [e]
   have:=this m 0
   rw [Nat.add_zero] at this
   rw [Nat.zero_add]
   exact this
theorem zyq {w:World} {base:Nat} {l m:List Fr} {U V:Nat → Value} {v:Value} (h:w.ownsRow base 105 9 v (l.length + m.length) (frCs U 0 l ++ frCs V 0 m)) (h1:∀ k f,l[k]? = some f → TxW w f.ids (U k)) (h2:∀ k f,m[k]? = some f → TxW w f.ids (V k)):FrW w (l ++ m) v:=by
 rw [ztm] at h
 refine zo1 (U:=zd4 l.length U V) (by rw [List.length_append];exact h) fun k f hf=>?_
 by_cases hk:k < l.length
 · rw [List.getElem?_append_left hk] at hf
   have:zd4 l.length U V k = U k:=by unfold zd4;rw [if_pos hk]
   rw [this];exact h1 k f hf
 · rw [List.getElem?_append_right (by omega)] at hf
   have:zd4 l.length U V k = V (k - l.length):=by unfold zd4;rw [if_neg hk]
   rw [this];exact h2 _ f hf
end Go.Proofs.YthnllikalobmeaaGreat
