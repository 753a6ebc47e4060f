/- Two cells are equal if both numbers are. -/
import Derived.Test.YthancdlkkfegnaaEqB
namespace Go.Proofs.Ythancdlkkfegnaa
open Go.ChangeShapes Go.WideShapes Go.ChangeAt Go.RowKit
set_option linter.unusedVariables false
theorem part_cell0 (a b : Int) (w : World) : (part 22 #[.int .i8 a, .int .i8 b] 0).run Try.prog w = .ok (.int .i8 a) w := by kernel_rfl
theorem part_cell1 (a b : Int) (w : World) : (part 22 #[.int .i8 a, .int .i8 b] 1).run Try.prog w = .ok (.int .i8 b) w := by kernel_rfl
theorem sizeOf_i8 (w : World) : (sizeOf 22).run Try.prog w = .ok 1 w := by kernel_rfl
theorem cellEq_any (a b c e : Int) (w : World) : (Op.equalIn 10000 38 (.agg #[.int .i8 a, .int .i8 b]) (.agg #[.int .i8 c, .int .i8 e])).run Try.prog w = .ok (a == c && b == e) w := by
  have h1 : (Op.equalIn 9999 22 (.int .i8 a) (.int .i8 c)).run Try.prog w = .ok (a == c) w := run_equalIn_int w 9998 _ _ _ _ _ Try.underlying22
  have h2 : (Op.equalIn 9999 22 (.int .i8 b) (.int .i8 e)).run Try.prog w = .ok (b == e) w := run_equalIn_int w 9998 _ _ _ _ _ Try.underlying22
  rw [show (10000 : Nat) = 9999 + 1 from rfl, Op.equalIn]
  simp only [Sem.run_bind, run_underlying Try.underlying38, Result.andThen_ok, sizeOf_i8]
  simp [Std.Legacy.Range.forIn_eq_forIn_range', Result.andThen]
  rw [show List.range' 0 2 = [0, 1] from rfl]
  cases ha : (a == c) <;> cases hb : (b == e) <;> rw [ha] at h1 <;> rw [hb] at h2 <;> simp [List.forIn_cons, List.forIn_nil, Sem.run_bind, part_cell0, part_cell1, Result.andThen, h1, h2]
end Go.Proofs.Ythancdlkkfegnaa
