/- Joined: LocalC. -/
import Derived.Test.YthnllikalobmeaaGreatJ44
import Derived.Test.YthnllikalobmeaaGreatJ46
import Derived.Test.YthnllikalobmeaaGreatJ47
namespace Go.Proofs.YthnllikalobmeaaGreat
set_option linter.unusedVariables false
set_option linter.unusedSimpArgs false
set_option maxRecDepth 100000
set_option maxHeartbeats 8000000
open Go.RowKit
theorem zi0 (s:St) (fv sv ov kv:Value) (f:Pr) (gv:Value) (w:World) (hS:StW w s fv sv ov kv) (hG:Good s) (hB:StB s) (hL:LP w f gv) (hf:f.size ≤ 60) :
   Calls Tryz.prog 50 #[stV s fv sv ov kv,prV f gv] w (zyb errI s.f fv f gv s sv ov kv (filS s f) (filE s f) w) :=
 (zjo s fv sv ov kv f gv w hS hG hB hL hf).mono fun _ _ h=>.inl h
end Go.Proofs.YthnllikalobmeaaGreat
