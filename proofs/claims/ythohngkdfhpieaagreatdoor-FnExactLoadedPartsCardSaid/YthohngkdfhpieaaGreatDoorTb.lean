/- Outputs as a number. -/
import Derived.Test.YthohngkdfhpieaaGreatDoorTm
namespace Go.Proofs.YthohngkdfhpieaaGreatDoor
open Go.ChangeShapes Go.WideShapes Go.ChangeAt Go.RowKit Go.Joins Go.Deep
set_option linter.unusedVariables false

/-- a one in the place j -/
def shl1 (j : Nat) : Int := 2 ^ j
/-- the number with a one for each tick that is none of -1, from the place j on -/
def outsB : List Int → Nat → Int → Int
  | [], _, a => a
  | x :: l, j, a => if x = -1 then outsB l (j + 1) a else outsB l (j + 1) (Go.bits .or .i64 a (shl1 j))
theorem outsB_yes {x : Int} {l : List Int} {j : Nat} {a : Int} (h : x = -1) : outsB (x :: l) j a = outsB l (j + 1) a := by rw [outsB, if_pos h]
theorem outsB_no {x : Int} {l : List Int} {j : Nat} {a : Int} (h : ¬ x = -1) : outsB (x :: l) j a = outsB l (j + 1) (Go.bits .or .i64 a (shl1 j)) := by rw [outsB, if_neg h]
theorem shl1_lt {j : Nat} (h : j ≤ 8) : wrap64 (2 ^ j) = 2 ^ j := by
  have : j = 0 ∨ j = 1 ∨ j = 2 ∨ j = 3 ∨ j = 4 ∨ j = 5 ∨ j = 6 ∨ j = 7 ∨ j = 8 := by omega
  rcases this with rfl | rfl | rfl | rfl | rfl | rfl | rfl | rfl | rfl <;> first | exact IntWalk.i64_in _ (by omega) | exact IntWalk.i64_in _ (by decide) | decide +kernel
end Go.Proofs.YthohngkdfhpieaaGreatDoor
