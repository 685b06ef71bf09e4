/- '==' of two items. No walk. -/
import Derived.Test.YtbojpdlidgmckaaItemM
import Derived.Laws.StructEq
import Derived.Laws.Cover2
namespace Go.Proofs.Ytbojpdlidgmckaa
set_option linter.unusedVariables false
set_option linter.unusedSimpArgs false
open Go.RowKit
def eqT (a b : Itm) : Bool := (a.id.toList == b.id.toList) && ((a.r == b.r && a.c == b.c) && ((a.st == b.st) && ((a.kd.toList == b.kd.toList) && ((a.num == b.num) && ((feq a.x b.x && feq a.y b.y) && (a.d == b.d))))))
theorem eqT_self {a : Itm} (hx : feq a.x a.x = true) (hy : feq a.y a.y = true) : eqT a a = true := by
  unfold eqT; simp [hx, hy]
set_option maxRecDepth 100000 in
set_option maxHeartbeats 2000000 in
theorem eqItm (a b : Itm) (w : World) : (Op.equalIn 10000 34 (.agg #[.string a.id, .int .i64 a.r, .int .i64 a.c, .int .i64 a.st, .string a.kd, .int .i64 a.num, .complex .f64 a.x a.y, .bool a.d]) (.agg #[.string b.id, .int .i64 b.r, .int .i64 b.c, .int .i64 b.st, .string b.kd, .int .i64 b.num, .complex .f64 b.x b.y, .bool b.d])).run Try.prog w = .ok (eqT a b) w := by
  have f1 : ∀ x y, (FloatKind.f64.format.order x y == some .eq) = feq x y := fun _ _ => rfl
  unfold eqT
  go_simp
  by_cases h1 : a.id.toList = b.id.toList
  case neg => simp [h1]
  by_cases h2 : a.r = b.r
  case neg => simp [h1, h2]
  by_cases h3 : a.c = b.c
  case neg => simp [h1, h2, h3]
  by_cases h4 : a.st = b.st
  case neg => simp [h1, h2, h3, h4]
  by_cases h5 : a.kd.toList = b.kd.toList
  case neg => simp [h1, h2, h3, h4, h5]
  by_cases h6 : a.num = b.num
  case neg => simp [h1, h2, h3, h4, h5, h6]
  by_cases h7 : a.d = b.d
  case neg => simp [h1, h2, h3, h4, h5, h6, h7]
  cases h8 : feq a.x b.x <;> cases h9 : feq a.y b.y <;> simp [h1, h2, h3, h4, h5, h6, h7]
end Go.Proofs.Ytbojpdlidgmckaa
