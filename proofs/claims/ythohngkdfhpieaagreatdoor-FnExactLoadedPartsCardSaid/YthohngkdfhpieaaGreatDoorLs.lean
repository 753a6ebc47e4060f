/- The model's code of a machine, a row and late. -/
import Derived.Test.YthohngkdfhpieaaGreatDoorMs
import Derived.Test.YthohngkdfhpieaaGreatDoorLd
namespace Go.Proofs.YthohngkdfhpieaaGreatDoor
open Go.ChangeShapes Go.WideShapes Go.ChangeAt Go.RowKit Go.Joins Go.Deep
set_option linter.unusedVariables false
set_option linter.unusedSimpArgs false

theorem pow_small {n : Nat} (hn : n ≤ 6) : 1 ≤ (2 : Int) ^ n ∧ (2 : Int) ^ n ≤ 64 := by
  have := pow_key hn
  omega
theorem machOk_len {wd hi : Int} {l : List Pc} {p : List Po} {c : List Cl} (h : machOk wd hi l p c = true) : p.length ≤ 6 := by
  unfold machOk countsOk at h
  simp at h
  omega
end Go.Proofs.YthohngkdfhpieaaGreatDoor
