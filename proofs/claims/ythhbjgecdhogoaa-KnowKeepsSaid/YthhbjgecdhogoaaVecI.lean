/- Counts of replicas: the code's own counts, one by one, walked. -/
import Derived.Test.YthhbjgecdhogoaaRefVec
namespace Go.Proofs.Ythhbjgecdhogoaa
set_option linter.unusedVariables false
set_option linter.unusedSimpArgs false
open Go.RowKit

theorem idx8_0 (A : Nat → Int) (w : World) : (Instr.index 23 (vecV A) (.int .i64 0)).run Try.prog w = .ok (.int .i64 (A 0)) w := by kernel_rfl
theorem idx8_1 (A : Nat → Int) (w : World) : (Instr.index 23 (vecV A) (.int .i64 1)).run Try.prog w = .ok (.int .i64 (A 1)) w := by kernel_rfl
theorem idx8_2 (A : Nat → Int) (w : World) : (Instr.index 23 (vecV A) (.int .i64 2)).run Try.prog w = .ok (.int .i64 (A 2)) w := by kernel_rfl
theorem idx8_3 (A : Nat → Int) (w : World) : (Instr.index 23 (vecV A) (.int .i64 3)).run Try.prog w = .ok (.int .i64 (A 3)) w := by kernel_rfl
theorem idx8_4 (A : Nat → Int) (w : World) : (Instr.index 23 (vecV A) (.int .i64 4)).run Try.prog w = .ok (.int .i64 (A 4)) w := by kernel_rfl
theorem idx8_5 (A : Nat → Int) (w : World) : (Instr.index 23 (vecV A) (.int .i64 5)).run Try.prog w = .ok (.int .i64 (A 5)) w := by kernel_rfl
theorem idx8_6 (A : Nat → Int) (w : World) : (Instr.index 23 (vecV A) (.int .i64 6)).run Try.prog w = .ok (.int .i64 (A 6)) w := by kernel_rfl
theorem idx8_7 (A : Nat → Int) (w : World) : (Instr.index 23 (vecV A) (.int .i64 7)).run Try.prog w = .ok (.int .i64 (A 7)) w := by kernel_rfl
theorem idx8 (A : Nat → Int) {k : Nat} (h : k < 8) (w : World) : (Instr.index 23 (vecV A) (.int .i64 (k : Int))).run Try.prog w = .ok (.int .i64 (A k)) w := by
  match k, h with
  | 0, _ => exact idx8_0 A w
  | 1, _ => exact idx8_1 A w
  | 2, _ => exact idx8_2 A w
  | 3, _ => exact idx8_3 A w
  | 4, _ => exact idx8_4 A w
  | 5, _ => exact idx8_5 A w
  | 6, _ => exact idx8_6 A w
  | 7, _ => exact idx8_7 A w

end Go.Proofs.Ythhbjgecdhogoaa
