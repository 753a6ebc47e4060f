/- Several texts in one: Ok, Mp, Ly, Lo, Vb, Pa, Ck. -/
import Derived.Test.YthngnbaoaeomeaaDoorG1
import Derived.IntWalk
import Derived.MapKept
import Derived.Carry
import Derived.Handy
/- The model's check of a board. -/
namespace Go.Proofs.YthngnbaoaeomeaaDoor
open Go.ChangeShapes Go.WideShapes Go.ChangeAt Go.RowKit
set_option linter.unusedVariables false

/-- a piece of a board: it is valid, in one of its cells, and the first one there -/
def okOne (wd hi : Int) (l : List Pc) (i : Nat) (p : Pc) : Bool := p.ok && decide (0 ≤ p.x ∧ p.x ≤ wd - 1 ∧ 0 ≤ p.y ∧ p.y ≤ hi - 1) && decide (findFrom p.x p.y l 0 = i)
/-- the pieces from the i-th on -/
def okFrom (wd hi : Int) (l : List Pc) : Nat → List Pc → Bool
  | _, [] => true
  | i, p :: r => okOne wd hi l i p && okFrom wd hi l (i + 1) r
def boardOk (wd hi : Int) (l : List Pc) : Bool := decide (1 ≤ wd ∧ wd ≤ 24 ∧ 1 ≤ hi ∧ hi ≤ 24 ∧ l.length ≤ 200) && okFrom wd hi l 0 l

/-- A region that draws its order, whose operations read what has been there and whose callees make memory alone: one walk in the order of the text. -/
theorem wp_region_class {P : Program} (C : World → Prop) {id : Nat} {Q : Exit → Act → World → Prop} {a : Act} {w : World} {l : List Oper} (hm : P.follows .mixedOrders = true) (hB : Region.lexB .any l.toArray = true) (hC : C { w with drawn := w.drawn + 1 })
    (h : wpQuiet P l.toArray C (fun a' => ∀ w', C w' → Q .normal a' w') l a) : (Code.region id l.toArray true).wp P Q a w :=
  wp_region_quiet (C := C) hm hB hC (by simpa using h)
end Go.Proofs.YthngnbaoaeomeaaDoor

namespace Go.Proofs.YthngnbaoaeomeaaDoor
open Go.ChangeShapes Go.WideShapes Go.ChangeAt Go.RowKit
end Go.Proofs.YthngnbaoaeomeaaDoor
namespace Go.Proofs.YthngnbaoaeomeaaDoor
open Go.ChangeShapes Go.WideShapes Go.ChangeAt Go.RowKit
end Go.Proofs.YthngnbaoaeomeaaDoor
namespace Go.Proofs.YthngnbaoaeomeaaDoor
open Go.ChangeShapes Go.WideShapes Go.ChangeAt Go.RowKit
end Go.Proofs.YthngnbaoaeomeaaDoor
namespace Go.Proofs.YthngnbaoaeomeaaDoor
open Go.ChangeShapes Go.WideShapes Go.ChangeAt Go.RowKit
end Go.Proofs.YthngnbaoaeomeaaDoor
namespace Go.Proofs.YthngnbaoaeomeaaDoor
open Go.ChangeShapes Go.WideShapes Go.ChangeAt Go.RowKit
end Go.Proofs.YthngnbaoaeomeaaDoor
namespace Go.Proofs.YthngnbaoaeomeaaDoor
open Go.ChangeShapes Go.WideShapes Go.ChangeAt Go.RowKit
end Go.Proofs.YthngnbaoaeomeaaDoor