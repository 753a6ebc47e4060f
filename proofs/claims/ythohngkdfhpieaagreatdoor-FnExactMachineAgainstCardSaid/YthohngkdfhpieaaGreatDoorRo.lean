/- RowWith: both sides. -/
import Derived.Test.YthohngkdfhpieaaGreatDoorAn
namespace Go.Proofs.YthohngkdfhpieaaGreatDoor
open Go.ChangeShapes Go.WideShapes Go.ChangeAt Go.RowKit Go.Shelf Go.Joins Go.Deep
set_option linter.unusedVariables false
set_option linter.unusedSimpArgs false

end Go.Proofs.YthohngkdfhpieaaGreatDoor
