/- Contracts of chapter 1's functions: turned pieces. -/
import Derived.Test.YtjdccompjibccaaC1c
namespace Go.Proofs.Ytjdccompjibccaa
open Go.ChangeShapes Go.WideShapes Go.ChangeAt Go.RowKit
set_option linter.unusedVariables false

def Pc.turned (p : Pc) (q : Int) : Pc := { p with turn := (p.turn + q) % 4 }
def Pc.zero : Pc := ⟨0, 0, 0, 0, 0⟩
/-- what TurnPiece answers -/
def turnPc (p : Pc) (q : Int) : Pc × Int := if p.ok = false then (Pc.zero, 1) else if q < -100 ∨ 100 < q then (Pc.zero, 2) else (p.turned q, 0)

theorem turnPc_in8 (p : Pc) (q : Int) (hp : p.in8) : (turnPc p q).1.in8 := by
  obtain ⟨h1, h2, h3, h4, h5⟩ := hp
  unfold turnPc
  split
  · simp [Pc.in8, Pc.zero, i8]
  · split
    · simp [Pc.in8, Pc.zero, i8]
    · exact ⟨h1, h2, h3, (by show i8 ((p.turn + q) % 4); unfold i8; omega), h5⟩
end Go.Proofs.Ytjdccompjibccaa
