/- Records of the type Piece compared by '==', and slices of them. -/
import Derived.Test.YtmllfacgonchnaaDoorG1
import Derived.Laws.StructEq
import Derived.BigQuiet
namespace Go.Proofs.YtmllfacgonchnaaDoor
open Go.ChangeShapes Go.WideShapes Go.ChangeAt Go.RowKit Go.Joins Go.Deep
set_option linter.unusedVariables false

theorem Cell_eq9 (a b a' b' : Int) (w : World) : (Op.equalIn 9999 45 (.agg #[.int .i8 a, .int .i8 b]) (.agg #[.int .i8 a', .int .i8 b'])).run Tryd.prog w = .ok (a == a' && b == b') w := by
  have h1 : (Op.equalIn 9998 22 (.int .i8 a) (.int .i8 a')).run Tryd.prog w = .ok (a == a') w := run_equalIn_int w 9997 _ _ _ _ _ Tryd.underlying22
  have h2 : (Op.equalIn 9998 22 (.int .i8 b) (.int .i8 b')).run Tryd.prog w = .ok (b == b') w := run_equalIn_int w 9997 _ _ _ _ _ Tryd.underlying22
  rw [show (9999 : Nat) = 9998 + 1 from rfl, Op.equalIn]
  simp only [Sem.run_bind, run_underlying Tryd.underlying45, Result.andThen_ok, sizeOf_i8]
  simp [Std.Legacy.Range.forIn_eq_forIn_range', Result.andThen]
  rw [show List.range' 0 2 = [0, 1] from rfl]
  cases ha : (a == a') <;> cases hb : (b == b') <;> rw [ha] at h1 <;> rw [hb] at h2 <;> simp [List.forIn_cons, List.forIn_nil, Sem.run_bind, part_cell0, part_cell1, Result.andThen, h1, h2]
theorem Pc_eq (p q : Pc) (w : World) : (Op.equalIn 10000 94 (.agg #[.int .i8 p.x, .int .i8 p.y, .int .i8 p.kind, .int .i8 p.turn, .int .i8 p.delay]) (.agg #[.int .i8 q.x, .int .i8 q.y, .int .i8 q.kind, .int .i8 q.turn, .int .i8 q.delay])).run Tryd.prog w = .ok (decide (p = q)) w := by
  obtain ⟨a, b, c, d, e⟩ := p
  obtain ⟨a', b', c', d', e'⟩ := q
  have hS : Tryd.prog.underlying 94 = some (.struct (Tryd.prog.fieldsOf 94)) := by kernel_rfl
  have hp : Tryd.prog.stoodInHeld 94 = false := by kernel_rfl
  rw [show (10000 : Nat) = 9999 + 1 from rfl, run_equalIn_agg w 9999 94 _ _ hS hp]
  simp only [Program.fieldsOf, Tryd.underlying94]
  go_simp
  by_cases h1 : a = a' <;> by_cases h2 : b = b' <;> by_cases h3 : c = c' <;> by_cases h4 : d = d' <;> by_cases h5 : e = e' <;> simp [h1, h2, h3, h4, h5, Cell_eq9]
end Go.Proofs.YtmllfacgonchnaaDoor
