/- Records of the type Port compared by '==', and slices of them. -/
import Derived.Test.YtmllfacgonchnaaDoorPo
import Derived.Test.YtmllfacgonchnaaDoorG1
import Derived.Test.YtmllfacgonchnaaDoorEqPc
import Derived.Laws.StructEq
namespace Go.Proofs.YtmllfacgonchnaaDoor
open Go.ChangeShapes Go.WideShapes Go.ChangeAt Go.RowKit Go.Joins Go.Deep
set_option linter.unusedVariables false

theorem Po_eq (p q : Po) (w : World) : (Op.equalIn 10000 140 (.agg #[.int .i8 p.x, .int .i8 p.y, .int .i8 p.side]) (.agg #[.int .i8 q.x, .int .i8 q.y, .int .i8 q.side])).run Tryd.prog w = .ok (decide (p = q)) w := by
  obtain ⟨a, b, c⟩ := p
  obtain ⟨a', b', c'⟩ := q
  have hS : Tryd.prog.underlying 140 = some (.struct (Tryd.prog.fieldsOf 140)) := by kernel_rfl
  have hp : Tryd.prog.stoodInHeld 140 = false := by kernel_rfl
  rw [show (10000 : Nat) = 9999 + 1 from rfl, run_equalIn_agg w 9999 140 _ _ hS hp]
  simp only [Program.fieldsOf, Tryd.underlying140]
  go_simp
  by_cases h1 : a = a' <;> by_cases h2 : b = b' <;> by_cases h3 : c = c' <;> simp [h1, h2, h3, Cell_eq9]
end Go.Proofs.YtmllfacgonchnaaDoor
