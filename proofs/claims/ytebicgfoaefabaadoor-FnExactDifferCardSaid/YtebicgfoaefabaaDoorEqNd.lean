/- Slices of nodes, and of int16, compared. -/
import Derived.Test.YtebicgfoaefabaaDoorG20
import Derived.Laws.StructEq
namespace Go.Proofs.YtebicgfoaefabaaDoor
open Go.ChangeShapes Go.WideShapes Go.ChangeAt Go.RowKit Go.Joins Go.Deep
set_option linter.unusedVariables false
set_option linter.unusedSimpArgs false

end Go.Proofs.YtebicgfoaefabaaDoor
