/- Slices of numbers: the laws' own copies. -/
import Derived.Test.YthohngkdfhpieaaGreatDoorIn
namespace Go.Proofs.YthohngkdfhpieaaGreatDoor
open Go.ChangeShapes Go.WideShapes Go.ChangeAt Go.RowKit Go.Joins Go.Deep
set_option linter.unusedVariables false
set_option linter.unusedSimpArgs false

theorem info_i64n : (Tryz.prog.info? 2).map (fun i => (i.zero, i.size, i.bytes)) = some (some (.int .i64 0), 1, 8) := by kernel_rfl
theorem SlIn.len {w : World} {l : List Int} {a : Option Addr} {n c : Nat} (h : SlIn w l (.slice a n c)) : n = l.length := by
  cases h with
  | empty a cap h => rw [h]; rfl
  | mk b o cap _ _ _ => rfl
end Go.Proofs.YthohngkdfhpieaaGreatDoor
